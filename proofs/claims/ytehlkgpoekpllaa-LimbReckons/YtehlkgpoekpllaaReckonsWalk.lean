/- The walk of the statement LimbReckons: of all two numbers, and all places, it answers true. -/
import Derived.Test.YtehlkgpoekpllaaRefSub
import Derived.Test.YtehlkgpoekpllaaRefCmp
import Derived.Test.YtehlkgpoekpllaaRefHalfBit
namespace Go.Proofs.Ytehlkgpoekpllaa
open Go.RowKit
attribute [local go_sem ↓] Go.wp_at_zero Go.wp_at_succ
attribute [local go_sem] eq4

def sel (c : Bool) (x y : Int) : Int := if c then x else y
theorem pick_any (c : Bool) (x0 x1 x2 x3 y0 y1 y2 y3 : Int) (w : World) :
    Calls Try.prog 16 #[.bool c, .agg #[.int .u64 x0, .int .u64 x1, .int .u64 x2, .int .u64 x3], .agg #[.int .u64 y0, .int .u64 y1, .int .u64 y2, .int .u64 y3]] w fun e w' => e = .returned (.agg #[.int .u64 (sel c x0 y0), .int .u64 (sel c x1 y1), .int .u64 (sel c x2 y2), .int .u64 (sel c x3 y3)]) ∧ Below w.heap.size w w' := by
  cases c
  · exact pick_false _ _ _ _ _ _ _ _ w
  · exact pick_true _ _ _ _ _ _ _ _ w
theorem ref_pick_any (c : Bool) (x0 x1 x2 x3 y0 y1 y2 y3 : Int) (w : World) :
    Calls Try.prog 17 #[.bool c, .agg #[.int .u64 x0, .int .u64 x1, .int .u64 x2, .int .u64 x3], .agg #[.int .u64 y0, .int .u64 y1, .int .u64 y2, .int .u64 y3]] w fun e w' => e = .returned (.agg #[.int .u64 (sel c x0 y0), .int .u64 (sel c x1 y1), .int .u64 (sel c x2 y2), .int .u64 (sel c x3 y3)]) ∧ Below w.heap.size w w' := by
  cases c
  · exact ref_pick_false _ _ _ _ _ _ _ _ w
  · exact ref_pick_true _ _ _ _ _ _ _ _ w

set_option maxHeartbeats 8000000 in
theorem reckons_walk {a b i : Int} (ha : Num a) (hb : Num b) (_wi : (Lit.int .i64 i).wf = true) (w : World) :
    Calls Try.prog 3 #[.agg #[.int .u64 (L 0 a), .int .u64 (L 1 a), .int .u64 (L 2 a), .int .u64 (L 3 a)], .agg #[.int .u64 (L 0 b), .int .u64 (L 1 b), .int .u64 (L 2 b), .int .u64 (L 3 b)], .int .i64 i] w fun e w' => e = .returned (.bool true) ∧ Below w.heap.size w w' := by
  go_enter Try.func3, Try.ntmps3
  go_wp2_with fail
  with_reducible refine Calls.mono (add_any ha hb _) ?_
  rintro e w1 ⟨rfl, hb1⟩
  have A1 := ((Arr.new w (w.heap.size) rfl 24 (L 0 a) (L 1 a) (L 2 a) (L 3 a)).alloc _).keep hb1
  have B1 := (Arr.new _ (w.heap.size + 1) (by simp) 24 (L 0 b) (L 1 b) (L 2 b) (L 3 b)).keep hb1
  have ⟨kA, kA0, kA1, kA2, kA3⟩ := A1
  have ⟨kB, kB0, kB1, kB2, kB3⟩ := B1
  go_wp2_with fail
  with_reducible refine Calls.mono (ref_add_any ha hb _) ?_
  clear kA kA0 kA1 kA2 kA3 kB kB0 kB1 kB2 kB3
  rintro e w2 ⟨rfl, hb2⟩
  have A2 := (A1.alloc _).keep hb2
  have B2 := (B1.alloc _).keep hb2
  have S2 := (Arr.new w1 w1.heap.size rfl 24 (L 0 (a + b)) (L 1 (a + b)) (L 2 (a + b)) (L 3 (a + b))).keep hb2
  have ⟨kA, kA0, kA1, kA2, kA3⟩ := A2
  have ⟨kB, kB0, kB1, kB2, kB3⟩ := B2
  go_wp2_with fail
  with_reducible refine Calls.mono (sub_any ha hb _) ?_
  clear kA kA0 kA1 kA2 kA3 kB kB0 kB1 kB2 kB3
  rintro e w3 ⟨rfl, hb3⟩
  have A3 := (A2.alloc _).keep hb3
  have B3 := (B2.alloc _).keep hb3
  have S3 := (S2.alloc _).keep hb3
  have T3 := (Arr.new w2 w2.heap.size rfl 24 (L 0 (a + b)) (L 1 (a + b)) (L 2 (a + b)) (L 3 (a + b))).keep hb3
  have ⟨kA, kA0, kA1, kA2, kA3⟩ := A3
  have ⟨kB, kB0, kB1, kB2, kB3⟩ := B3
  go_wp2_with fail
  with_reducible refine Calls.mono (ref_sub_any ha hb _) ?_
  clear kA kA0 kA1 kA2 kA3 kB kB0 kB1 kB2 kB3
  rintro e w4 ⟨rfl, hb4⟩
  have A4 := (A3.alloc _).keep hb4
  have B4 := (B3.alloc _).keep hb4
  have S4 := (S3.alloc _).keep hb4
  have T4 := (T3.alloc _).keep hb4
  have U4 := (Arr.new w3 w3.heap.size rfl 24 (L 0 (a - b)) (L 1 (a - b)) (L 2 (a - b)) (L 3 (a - b))).keep hb4
  have A5 := A4.alloc (.cells #[.int .u64 (L 0 (a - b)), .int .u64 (L 1 (a - b)), .int .u64 (L 2 (a - b)), .int .u64 (L 3 (a - b))] 24)
  have B5 := B4.alloc (.cells #[.int .u64 (L 0 (a - b)), .int .u64 (L 1 (a - b)), .int .u64 (L 2 (a - b)), .int .u64 (L 3 (a - b))] 24)
  have S5 := S4.alloc (.cells #[.int .u64 (L 0 (a - b)), .int .u64 (L 1 (a - b)), .int .u64 (L 2 (a - b)), .int .u64 (L 3 (a - b))] 24)
  have T5 := T4.alloc (.cells #[.int .u64 (L 0 (a - b)), .int .u64 (L 1 (a - b)), .int .u64 (L 2 (a - b)), .int .u64 (L 3 (a - b))] 24)
  have U5 := U4.alloc (.cells #[.int .u64 (L 0 (a - b)), .int .u64 (L 1 (a - b)), .int .u64 (L 2 (a - b)), .int .u64 (L 3 (a - b))] 24)
  have V5 := Arr.new w4 w4.heap.size rfl 24 (L 0 (a - b)) (L 1 (a - b)) (L 2 (a - b)) (L 3 (a - b))
  have hw : Below w.heap.size w (w4.alloc (.cells #[.int .u64 (L 0 (a - b)), .int .u64 (L 1 (a - b)), .int .u64 (L 2 (a - b)), .int .u64 (L 3 (a - b))] 24)) := K.alloc (K.call (K.alloc (K.call (K.alloc (K.call (K.alloc (K.call (K.alloc (K.alloc (Below.refl _ w) _) _) hb1) _) hb2) _) hb3) _) hb4) _
  clear A1 B1 A2 B2 S2 A3 B3 S3 T3 A4 B4 S4 T4 U4 hb1 hb2 hb3 hb4
  go_wp2_with fail
  generalize w4.alloc (.cells #[.int .u64 (L 0 (a - b)), .int .u64 (L 1 (a - b)), .int .u64 (L 2 (a - b)), .int .u64 (L 3 (a - b))] 24) = W0 at *
  have hS : Hid (∀ w', Below W0.heap.size W0 w' → (Below W0.heap.size W0 w' ∧ w'.cell? ⟨w.heap.size, 0, none⟩ = some (.int .u64 (L 0 a)) ∧ w'.cell? ⟨w.heap.size, 1, none⟩ = some (.int .u64 (L 1 a)) ∧ w'.cell? ⟨w.heap.size, 2, none⟩ = some (.int .u64 (L 2 a)) ∧ w'.cell? ⟨w.heap.size, 3, none⟩ = some (.int .u64 (L 3 a)) ∧ w'.cell? ⟨w.heap.size + 1, 0, none⟩ = some (.int .u64 (L 0 b)) ∧ w'.cell? ⟨w.heap.size + 1, 1, none⟩ = some (.int .u64 (L 1 b)) ∧ w'.cell? ⟨w.heap.size + 1, 2, none⟩ = some (.int .u64 (L 2 b)) ∧ w'.cell? ⟨w.heap.size + 1, 3, none⟩ = some (.int .u64 (L 3 b)) ∧ w'.cell? ⟨w1.heap.size, 0, none⟩ = some (.int .u64 (L 0 (a + b))) ∧ w'.cell? ⟨w1.heap.size, 1, none⟩ = some (.int .u64 (L 1 (a + b))) ∧ w'.cell? ⟨w1.heap.size, 2, none⟩ = some (.int .u64 (L 2 (a + b))) ∧ w'.cell? ⟨w1.heap.size, 3, none⟩ = some (.int .u64 (L 3 (a + b))) ∧ w'.cell? ⟨w2.heap.size, 0, none⟩ = some (.int .u64 (L 0 (a + b))) ∧ w'.cell? ⟨w2.heap.size, 1, none⟩ = some (.int .u64 (L 1 (a + b))) ∧ w'.cell? ⟨w2.heap.size, 2, none⟩ = some (.int .u64 (L 2 (a + b))) ∧ w'.cell? ⟨w2.heap.size, 3, none⟩ = some (.int .u64 (L 3 (a + b))) ∧ w'.cell? ⟨w3.heap.size, 0, none⟩ = some (.int .u64 (L 0 (a - b))) ∧ w'.cell? ⟨w3.heap.size, 1, none⟩ = some (.int .u64 (L 1 (a - b))) ∧ w'.cell? ⟨w3.heap.size, 2, none⟩ = some (.int .u64 (L 2 (a - b))) ∧ w'.cell? ⟨w3.heap.size, 3, none⟩ = some (.int .u64 (L 3 (a - b))) ∧ w'.cell? ⟨w4.heap.size, 0, none⟩ = some (.int .u64 (L 0 (a - b))) ∧ w'.cell? ⟨w4.heap.size, 1, none⟩ = some (.int .u64 (L 1 (a - b))) ∧ w'.cell? ⟨w4.heap.size, 2, none⟩ = some (.int .u64 (L 2 (a - b))) ∧ w'.cell? ⟨w4.heap.size, 3, none⟩ = some (.int .u64 (L 3 (a - b))))) := fun w' hB => ⟨hB, later hB A5.c0, later hB A5.c1, later hB A5.c2, later hB A5.c3, later hB B5.c0, later hB B5.c1, later hB B5.c2, later hB B5.c3, later hB S5.c0, later hB S5.c1, later hB S5.c2, later hB S5.c3, later hB T5.c0, later hB T5.c1, later hB T5.c2, later hB T5.c3, later hB U5.c0, later hB U5.c1, later hB U5.c2, later hB U5.c3, later hB V5.c0, later hB V5.c1, later hB V5.c2, later hB V5.c3⟩
  go_region_held3 (fun w' => Below W0.heap.size W0 w' ∧ w'.cell? ⟨w.heap.size, 0, none⟩ = some (.int .u64 (L 0 a)) ∧ w'.cell? ⟨w.heap.size, 1, none⟩ = some (.int .u64 (L 1 a)) ∧ w'.cell? ⟨w.heap.size, 2, none⟩ = some (.int .u64 (L 2 a)) ∧ w'.cell? ⟨w.heap.size, 3, none⟩ = some (.int .u64 (L 3 a)) ∧ w'.cell? ⟨w.heap.size + 1, 0, none⟩ = some (.int .u64 (L 0 b)) ∧ w'.cell? ⟨w.heap.size + 1, 1, none⟩ = some (.int .u64 (L 1 b)) ∧ w'.cell? ⟨w.heap.size + 1, 2, none⟩ = some (.int .u64 (L 2 b)) ∧ w'.cell? ⟨w.heap.size + 1, 3, none⟩ = some (.int .u64 (L 3 b)) ∧ w'.cell? ⟨w1.heap.size, 0, none⟩ = some (.int .u64 (L 0 (a + b))) ∧ w'.cell? ⟨w1.heap.size, 1, none⟩ = some (.int .u64 (L 1 (a + b))) ∧ w'.cell? ⟨w1.heap.size, 2, none⟩ = some (.int .u64 (L 2 (a + b))) ∧ w'.cell? ⟨w1.heap.size, 3, none⟩ = some (.int .u64 (L 3 (a + b))) ∧ w'.cell? ⟨w2.heap.size, 0, none⟩ = some (.int .u64 (L 0 (a + b))) ∧ w'.cell? ⟨w2.heap.size, 1, none⟩ = some (.int .u64 (L 1 (a + b))) ∧ w'.cell? ⟨w2.heap.size, 2, none⟩ = some (.int .u64 (L 2 (a + b))) ∧ w'.cell? ⟨w2.heap.size, 3, none⟩ = some (.int .u64 (L 3 (a + b))) ∧ w'.cell? ⟨w3.heap.size, 0, none⟩ = some (.int .u64 (L 0 (a - b))) ∧ w'.cell? ⟨w3.heap.size, 1, none⟩ = some (.int .u64 (L 1 (a - b))) ∧ w'.cell? ⟨w3.heap.size, 2, none⟩ = some (.int .u64 (L 2 (a - b))) ∧ w'.cell? ⟨w3.heap.size, 3, none⟩ = some (.int .u64 (L 3 (a - b))) ∧ w'.cell? ⟨w4.heap.size, 0, none⟩ = some (.int .u64 (L 0 (a - b))) ∧ w'.cell? ⟨w4.heap.size, 1, none⟩ = some (.int .u64 (L 1 (a - b))) ∧ w'.cell? ⟨w4.heap.size, 2, none⟩ = some (.int .u64 (L 2 (a - b))) ∧ w'.cell? ⟨w4.heap.size, 3, none⟩ = some (.int .u64 (L 3 (a - b))))
    ((refine hS.out _ ?_; first | (with_reducible exact K.drew (Below.refl _ _)) | (with_reducible exact K.drew (K.alloc (Below.refl _ _) _)) | (with_reducible exact Below.refl _ _) | (with_reducible exact K.call (by go_split_ands; assumption) hk) | (with_reducible exact K.alloc (by go_split_ands; assumption) _) | (with_reducible exact K.again (by go_split_ands; assumption) (by omega) _) | (with_reducible exact K.set (by go_split_ands; assumption) (by first | omega | (simp; done) | (simp; omega)) _) | (with_reducible exact K.set (K.set (K.set (K.set (by go_split_ands; assumption) (by first | omega | (simp; done) | (simp; omega)) _) (by first | omega | (simp; done) | (simp; omega)) _) (by first | omega | (simp; done) | (simp; omega)) _) (by first | omega | (simp; done) | (simp; omega)) _)))
    (first
      | (go_at_call 13; with_reducible refine Calls.mono (awake_any _) ?_; rintro e wz ⟨rfl, hk⟩; have hz := hk.size; (try simp at hz); obtain ⟨hc, hf⟩ := bcell hk; have hl := lt_keep hk)
      | (go_at_call 14; with_reducible refine Calls.mono (cmp_any ha hb _) ?_; rintro e wz ⟨rfl, hk⟩; have hz := hk.size; (try simp at hz); obtain ⟨hc, hf⟩ := bcell hk; have hl := lt_keep hk)
      | (go_at_call 15; with_reducible refine Calls.mono (ref_cmp_any ha hb _) ?_; rintro e wz ⟨rfl, hk⟩; have hz := hk.size; (try simp at hz); obtain ⟨hc, hf⟩ := bcell hk; have hl := lt_keep hk))
  have hH := ‹Below _ _ _ ∧ _›
  have A6 := A5.keep hH.1
  have B6 := B5.keep hH.1
  have hw6 := K.call hw hH.1
  clear hH hS A5 B5 S5 T5 U5 V5 hw
  have hS : Hid (∀ w', Below wz.heap.size wz w' → (Below wz.heap.size wz w' ∧ w'.cell? ⟨w.heap.size, 0, none⟩ = some (.int .u64 (L 0 a)) ∧ w'.cell? ⟨w.heap.size, 1, none⟩ = some (.int .u64 (L 1 a)) ∧ w'.cell? ⟨w.heap.size, 2, none⟩ = some (.int .u64 (L 2 a)) ∧ w'.cell? ⟨w.heap.size, 3, none⟩ = some (.int .u64 (L 3 a)) ∧ w'.cell? ⟨w.heap.size + 1, 0, none⟩ = some (.int .u64 (L 0 b)) ∧ w'.cell? ⟨w.heap.size + 1, 1, none⟩ = some (.int .u64 (L 1 b)) ∧ w'.cell? ⟨w.heap.size + 1, 2, none⟩ = some (.int .u64 (L 2 b)) ∧ w'.cell? ⟨w.heap.size + 1, 3, none⟩ = some (.int .u64 (L 3 b)))) := fun w' hB => ⟨hB, later hB A6.c0, later hB A6.c1, later hB A6.c2, later hB A6.c3, later hB B6.c0, later hB B6.c1, later hB B6.c2, later hB B6.c3⟩
  go_wp2_with fail
  go_region_held3 (fun w' => Below wz.heap.size wz w' ∧ w'.cell? ⟨w.heap.size, 0, none⟩ = some (.int .u64 (L 0 a)) ∧ w'.cell? ⟨w.heap.size, 1, none⟩ = some (.int .u64 (L 1 a)) ∧ w'.cell? ⟨w.heap.size, 2, none⟩ = some (.int .u64 (L 2 a)) ∧ w'.cell? ⟨w.heap.size, 3, none⟩ = some (.int .u64 (L 3 a)) ∧ w'.cell? ⟨w.heap.size + 1, 0, none⟩ = some (.int .u64 (L 0 b)) ∧ w'.cell? ⟨w.heap.size + 1, 1, none⟩ = some (.int .u64 (L 1 b)) ∧ w'.cell? ⟨w.heap.size + 1, 2, none⟩ = some (.int .u64 (L 2 b)) ∧ w'.cell? ⟨w.heap.size + 1, 3, none⟩ = some (.int .u64 (L 3 b)))
    ((refine hS.out _ ?_; first | (with_reducible exact K.drew (Below.refl _ _)) | (with_reducible exact K.drew (K.alloc (Below.refl _ _) _)) | (with_reducible exact Below.refl _ _) | (with_reducible exact K.call (by go_split_ands; assumption) hk) | (with_reducible exact K.alloc (by go_split_ands; assumption) _) | (with_reducible exact K.again (by go_split_ands; assumption) (by omega) _) | (with_reducible exact K.set (by go_split_ands; assumption) (by first | omega | (simp; done) | (simp; omega)) _) | (with_reducible exact K.set (K.set (K.set (K.set (by go_split_ands; assumption) (by first | omega | (simp; done) | (simp; omega)) _) (by first | omega | (simp; done) | (simp; omega)) _) (by first | omega | (simp; done) | (simp; omega)) _) (by first | omega | (simp; done) | (simp; omega)) _)))
    (first
      | (go_at_call 16; with_reducible refine Calls.mono (pick_any _ _ _ _ _ _ _ _ _ _) ?_; rintro e w' ⟨rfl, hk⟩; have hz := hk.size; (try simp at hz); obtain ⟨hc, hf⟩ := bcell hk; have hl := lt_keep hk)
      | (go_at_call 17; with_reducible refine Calls.mono (ref_pick_any _ _ _ _ _ _ _ _ _ _) ?_; rintro e w' ⟨rfl, hk⟩; have hz := hk.size; (try simp at hz); obtain ⟨hc, hf⟩ := bcell hk; have hl := lt_keep hk)
      | (go_at_call 18; with_reducible refine Calls.mono (half_any ha _) ?_; rintro e w' ⟨rfl, hk⟩; have hz := hk.size; (try simp at hz); obtain ⟨hc, hf⟩ := bcell hk; have hl := lt_keep hk)
      | (go_at_call 19; with_reducible refine Calls.mono (ref_half_any ha _) ?_; rintro e w' ⟨rfl, hk⟩; have hz := hk.size; (try simp at hz); obtain ⟨hc, hf⟩ := bcell hk; have hl := lt_keep hk)
      | (go_at_call 20; with_reducible refine Calls.mono (bit_any a i _) ?_; rintro e w' ⟨rfl, hk⟩; have hz := hk.size; (try simp at hz); obtain ⟨hc, hf⟩ := bcell hk; have hl := lt_keep hk)
      | (go_at_call 21; with_reducible refine Calls.mono (ref_bit_any a i _) ?_; rintro e w' ⟨rfl, hk⟩; have hz := hk.size; (try simp at hz); obtain ⟨hc, hf⟩ := bcell hk; have hl := lt_keep hk))
  have hH := ‹Below _ _ _ ∧ _›
  go_wp2
  go_ret
  exact ⟨rfl, K.call hw6 hH.1⟩
end Go.Proofs.Ytehlkgpoekpllaa
