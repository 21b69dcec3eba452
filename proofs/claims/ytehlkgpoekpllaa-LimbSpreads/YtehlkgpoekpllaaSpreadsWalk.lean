/- The walk of the statement LimbSpreads: of all three numbers it answers true. -/
import Derived.Test.YtehlkgpoekpllaaMulAny
import Derived.Test.YtehlkgpoekpllaaSum
import Derived.Test.YtehlkgpoekpllaaRefWide
namespace Go.Proofs.Ytehlkgpoekpllaa
open Go.RowKit
attribute [local go_sem ↓] Go.wp_at_zero Go.wp_at_succ
attribute [local go_sem] eq8

theorem hide {p : Prop} (h : p) : Hid p := h
theorem unhide {p : Prop} (h : Hid p) : p := h
theorem mul_turn {a b : Int} (ha : Num a) (hb : Num b) (w : World) :
    Calls Try.prog 22 #[.agg #[.int .u64 (L 0 b), .int .u64 (L 1 b), .int .u64 (L 2 b), .int .u64 (L 3 b)], .agg #[.int .u64 (L 0 a), .int .u64 (L 1 a), .int .u64 (L 2 a), .int .u64 (L 3 a)]] w fun e w' => e = .returned (.agg #[.int .u64 (L 0 (a * b)), .int .u64 (L 1 (a * b)), .int .u64 (L 2 (a * b)), .int .u64 (L 3 (a * b)), .int .u64 (L 4 (a * b)), .int .u64 (L 5 (a * b)), .int .u64 (L 6 (a * b)), .int .u64 (L 7 (a * b))]) ∧ Below w.heap.size w w' := by
  have h := mul_any hb ha w
  rw [Int.mul_comm b a] at h
  exact h
theorem mul_none {a : Int} (ha : Num a) (w : World) :
    Calls Try.prog 22 #[.agg #[.int .u64 (L 0 a), .int .u64 (L 1 a), .int .u64 (L 2 a), .int .u64 (L 3 a)], .agg #[.int .u64 0, .int .u64 0, .int .u64 0, .int .u64 0]] w fun e w' => e = .returned (.agg #[.int .u64 0, .int .u64 0, .int .u64 0, .int .u64 0, .int .u64 0, .int .u64 0, .int .u64 0, .int .u64 0]) ∧ Below w.heap.size w w' := by
  have h := mul_any ha (b := 0) ⟨by decide, by decide⟩ w
  have z0 : L 0 0 = 0 := by decide
  have z1 : L 1 0 = 0 := by decide
  have z2 : L 2 0 = 0 := by decide
  have z3 : L 3 0 = 0 := by decide
  have z4 : L 4 0 = 0 := by decide
  have z5 : L 5 0 = 0 := by decide
  have z6 : L 6 0 = 0 := by decide
  have z7 : L 7 0 = 0 := by decide
  rw [Int.mul_zero, z0, z1, z2, z3, z4, z5, z6, z7] at h
  exact h
theorem mul_one {a : Int} (ha : Num a) (w : World) :
    Calls Try.prog 22 #[.agg #[.int .u64 (L 0 a), .int .u64 (L 1 a), .int .u64 (L 2 a), .int .u64 (L 3 a)], .agg #[.int .u64 1, .int .u64 0, .int .u64 0, .int .u64 0]] w fun e w' => e = .returned (.agg #[.int .u64 (L 0 a), .int .u64 (L 1 a), .int .u64 (L 2 a), .int .u64 (L 3 a), .int .u64 0, .int .u64 0, .int .u64 0, .int .u64 0]) ∧ Below w.heap.size w w' := by
  have h := mul_any ha (b := 1) ⟨by decide, by decide⟩ w
  have e0 : L 0 1 = 1 := by decide
  have e1 : L 1 1 = 0 := by decide
  have e2 : L 2 1 = 0 := by decide
  have e3 : L 3 1 = 0 := by decide
  rw [Int.mul_one, e0, e1, e2, e3, high_zero ha 4 (by omega), high_zero ha 5 (by omega), high_zero ha 6 (by omega), high_zero ha 7 (by omega)] at h
  exact h
theorem mul_sum {a b c : Int} (ha : Num a) (hb : Num b) (hc : Num c) (o : over b c = false) (w : World) :
    Calls Try.prog 22 #[.agg #[.int .u64 (L 0 a), .int .u64 (L 1 a), .int .u64 (L 2 a), .int .u64 (L 3 a)], .agg #[.int .u64 (L 0 (b + c)), .int .u64 (L 1 (b + c)), .int .u64 (L 2 (b + c)), .int .u64 (L 3 (b + c))]] w fun e w' => e = .returned (.agg #[.int .u64 (L 0 (a * b + a * c)), .int .u64 (L 1 (a * b + a * c)), .int .u64 (L 2 (a * b + a * c)), .int .u64 (L 3 (a * b + a * c)), .int .u64 (L 4 (a * b + a * c)), .int .u64 (L 5 (a * b + a * c)), .int .u64 (L 6 (a * b + a * c)), .int .u64 (L 7 (a * b + a * c))]) ∧ Below w.heap.size w w' := by
  have hs : Num (b + c) := by
    obtain ⟨b1, b2⟩ := hb
    obtain ⟨c1, c2⟩ := hc
    unfold over at o
    simp at o
    exact ⟨by omega, by omega⟩
  have h := mul_any ha hs w
  rw [Int.mul_add] at h
  exact h

set_option maxHeartbeats 8000000 in
theorem spreads_walk {a b c : Int} (ha : Num a) (hb : Num b) (nc : Num c) (w : World) :
    Calls Try.prog 6 #[.agg #[.int .u64 (L 0 a), .int .u64 (L 1 a), .int .u64 (L 2 a), .int .u64 (L 3 a)], .agg #[.int .u64 (L 0 b), .int .u64 (L 1 b), .int .u64 (L 2 b), .int .u64 (L 3 b)], .agg #[.int .u64 (L 0 c), .int .u64 (L 1 c), .int .u64 (L 2 c), .int .u64 (L 3 c)]] w fun e w' => e = .returned (.bool true) ∧ Below w.heap.size w w' := by
  go_enter Try.func6, Try.ntmps6
  go_wp2_with fail
  with_reducible refine Calls.mono (add_any hb nc _) ?_
  rintro e w1 ⟨rfl, hb1⟩
  have A1 := (((Arr.new w (w.heap.size) rfl 24 (L 0 a) (L 1 a) (L 2 a) (L 3 a)).alloc _).alloc _).keep hb1
  have B1 := ((Arr.new _ (w.heap.size + 1) (by simp) 24 (L 0 b) (L 1 b) (L 2 b) (L 3 b)).alloc _).keep hb1
  have C1 := (Arr.new _ (w.heap.size + 1 + 1) (by simp) 24 (L 0 c) (L 1 c) (L 2 c) (L 3 c)).keep hb1
  have ⟨kA, kA0, kA1, kA2, kA3⟩ := A1
  go_wp2_with fail
  with_reducible refine Calls.mono (mul_one ha _) ?_
  clear kA kA0 kA1 kA2 kA3
  rintro e w2 ⟨rfl, hb2⟩
  have A2 := ((A1.alloc _).keep hb2).alloc (.cells #[.int .u64 (L 0 a), .int .u64 (L 1 a), .int .u64 (L 2 a), .int .u64 (L 3 a), .int .u64 0, .int .u64 0, .int .u64 0, .int .u64 0] 34)
  have B2 := ((B1.alloc _).keep hb2).alloc (.cells #[.int .u64 (L 0 a), .int .u64 (L 1 a), .int .u64 (L 2 a), .int .u64 (L 3 a), .int .u64 0, .int .u64 0, .int .u64 0, .int .u64 0] 34)
  have C2 := ((C1.alloc _).keep hb2).alloc (.cells #[.int .u64 (L 0 a), .int .u64 (L 1 a), .int .u64 (L 2 a), .int .u64 (L 3 a), .int .u64 0, .int .u64 0, .int .u64 0, .int .u64 0] 34)
  have S2 := ((Arr.new w1 w1.heap.size rfl 24 (L 0 (b + c)) (L 1 (b + c)) (L 2 (b + c)) (L 3 (b + c))).keep hb2).alloc (.cells #[.int .u64 (L 0 a), .int .u64 (L 1 a), .int .u64 (L 2 a), .int .u64 (L 3 a), .int .u64 0, .int .u64 0, .int .u64 0, .int .u64 0] 34)
  have o0 : (w2.alloc (.cells #[.int .u64 (L 0 a), .int .u64 (L 1 a), .int .u64 (L 2 a), .int .u64 (L 3 a), .int .u64 0, .int .u64 0, .int .u64 0, .int .u64 0] 34)).cell? ⟨w2.heap.size, 0, none⟩ = some (.int .u64 (L 0 a)) := by simp [go_sem]
  have o1 : (w2.alloc (.cells #[.int .u64 (L 0 a), .int .u64 (L 1 a), .int .u64 (L 2 a), .int .u64 (L 3 a), .int .u64 0, .int .u64 0, .int .u64 0, .int .u64 0] 34)).cell? ⟨w2.heap.size, 1, none⟩ = some (.int .u64 (L 1 a)) := by simp [go_sem]
  have o2 : (w2.alloc (.cells #[.int .u64 (L 0 a), .int .u64 (L 1 a), .int .u64 (L 2 a), .int .u64 (L 3 a), .int .u64 0, .int .u64 0, .int .u64 0, .int .u64 0] 34)).cell? ⟨w2.heap.size, 2, none⟩ = some (.int .u64 (L 2 a)) := by simp [go_sem]
  have o3 : (w2.alloc (.cells #[.int .u64 (L 0 a), .int .u64 (L 1 a), .int .u64 (L 2 a), .int .u64 (L 3 a), .int .u64 0, .int .u64 0, .int .u64 0, .int .u64 0] 34)).cell? ⟨w2.heap.size, 3, none⟩ = some (.int .u64 (L 3 a)) := by simp [go_sem]
  have o4 : (w2.alloc (.cells #[.int .u64 (L 0 a), .int .u64 (L 1 a), .int .u64 (L 2 a), .int .u64 (L 3 a), .int .u64 0, .int .u64 0, .int .u64 0, .int .u64 0] 34)).cell? ⟨w2.heap.size, 4, none⟩ = some (.int .u64 0) := by simp [go_sem]
  have o5 : (w2.alloc (.cells #[.int .u64 (L 0 a), .int .u64 (L 1 a), .int .u64 (L 2 a), .int .u64 (L 3 a), .int .u64 0, .int .u64 0, .int .u64 0, .int .u64 0] 34)).cell? ⟨w2.heap.size, 5, none⟩ = some (.int .u64 0) := by simp [go_sem]
  have o6 : (w2.alloc (.cells #[.int .u64 (L 0 a), .int .u64 (L 1 a), .int .u64 (L 2 a), .int .u64 (L 3 a), .int .u64 0, .int .u64 0, .int .u64 0, .int .u64 0] 34)).cell? ⟨w2.heap.size, 6, none⟩ = some (.int .u64 0) := by simp [go_sem]
  have o7 : (w2.alloc (.cells #[.int .u64 (L 0 a), .int .u64 (L 1 a), .int .u64 (L 2 a), .int .u64 (L 3 a), .int .u64 0, .int .u64 0, .int .u64 0, .int .u64 0] 34)).cell? ⟨w2.heap.size, 7, none⟩ = some (.int .u64 0) := by simp [go_sem]
  have hw : Below w.heap.size w (w2.alloc (.cells #[.int .u64 (L 0 a), .int .u64 (L 1 a), .int .u64 (L 2 a), .int .u64 (L 3 a), .int .u64 0, .int .u64 0, .int .u64 0, .int .u64 0] 34)) := K.alloc (K.call (K.alloc (K.call (K.alloc (K.alloc (K.alloc (Below.refl _ w) _) _) _) hb1) _) hb2) _
  clear A1 B1 C1 hb1 hb2
  have O0 := hide o0
  clear o0
  have O1 := hide o1
  clear o1
  have O2 := hide o2
  clear o2
  have O3 := hide o3
  clear o3
  have O4 := hide o4
  clear o4
  have O5 := hide o5
  clear o5
  have O6 := hide o6
  clear o6
  have O7 := hide o7
  clear o7
  go_wp2_with fail
  generalize w2.alloc (.cells #[.int .u64 (L 0 a), .int .u64 (L 1 a), .int .u64 (L 2 a), .int .u64 (L 3 a), .int .u64 0, .int .u64 0, .int .u64 0, .int .u64 0] 34) = W0 at *
  have hS : Hid (∀ w', Below W0.heap.size W0 w' → (Below W0.heap.size W0 w' ∧ w'.cell? ⟨w.heap.size, 0, none⟩ = some (.int .u64 (L 0 a)) ∧ w'.cell? ⟨w.heap.size, 1, none⟩ = some (.int .u64 (L 1 a)) ∧ w'.cell? ⟨w.heap.size, 2, none⟩ = some (.int .u64 (L 2 a)) ∧ w'.cell? ⟨w.heap.size, 3, none⟩ = some (.int .u64 (L 3 a)) ∧ w'.cell? ⟨w.heap.size + 1, 0, none⟩ = some (.int .u64 (L 0 b)) ∧ w'.cell? ⟨w.heap.size + 1, 1, none⟩ = some (.int .u64 (L 1 b)) ∧ w'.cell? ⟨w.heap.size + 1, 2, none⟩ = some (.int .u64 (L 2 b)) ∧ w'.cell? ⟨w.heap.size + 1, 3, none⟩ = some (.int .u64 (L 3 b)) ∧ w'.cell? ⟨w2.heap.size, 0, none⟩ = some (.int .u64 (L 0 a)) ∧ w'.cell? ⟨w2.heap.size, 1, none⟩ = some (.int .u64 (L 1 a)) ∧ w'.cell? ⟨w2.heap.size, 2, none⟩ = some (.int .u64 (L 2 a)) ∧ w'.cell? ⟨w2.heap.size, 3, none⟩ = some (.int .u64 (L 3 a)) ∧ w'.cell? ⟨w2.heap.size, 4, none⟩ = some (.int .u64 0) ∧ w'.cell? ⟨w2.heap.size, 5, none⟩ = some (.int .u64 0) ∧ w'.cell? ⟨w2.heap.size, 6, none⟩ = some (.int .u64 0) ∧ w'.cell? ⟨w2.heap.size, 7, none⟩ = some (.int .u64 0))) := fun w' hB => ⟨hB, later hB A2.c0, later hB A2.c1, later hB A2.c2, later hB A2.c3, later hB B2.c0, later hB B2.c1, later hB B2.c2, later hB B2.c3, later hB (unhide O0), later hB (unhide O1), later hB (unhide O2), later hB (unhide O3), later hB (unhide O4), later hB (unhide O5), later hB (unhide O6), later hB (unhide O7)⟩
  go_region_held3 (fun w' => Below W0.heap.size W0 w' ∧ w'.cell? ⟨w.heap.size, 0, none⟩ = some (.int .u64 (L 0 a)) ∧ w'.cell? ⟨w.heap.size, 1, none⟩ = some (.int .u64 (L 1 a)) ∧ w'.cell? ⟨w.heap.size, 2, none⟩ = some (.int .u64 (L 2 a)) ∧ w'.cell? ⟨w.heap.size, 3, none⟩ = some (.int .u64 (L 3 a)) ∧ w'.cell? ⟨w.heap.size + 1, 0, none⟩ = some (.int .u64 (L 0 b)) ∧ w'.cell? ⟨w.heap.size + 1, 1, none⟩ = some (.int .u64 (L 1 b)) ∧ w'.cell? ⟨w.heap.size + 1, 2, none⟩ = some (.int .u64 (L 2 b)) ∧ w'.cell? ⟨w.heap.size + 1, 3, none⟩ = some (.int .u64 (L 3 b)) ∧ w'.cell? ⟨w2.heap.size, 0, none⟩ = some (.int .u64 (L 0 a)) ∧ w'.cell? ⟨w2.heap.size, 1, none⟩ = some (.int .u64 (L 1 a)) ∧ w'.cell? ⟨w2.heap.size, 2, none⟩ = some (.int .u64 (L 2 a)) ∧ w'.cell? ⟨w2.heap.size, 3, none⟩ = some (.int .u64 (L 3 a)) ∧ w'.cell? ⟨w2.heap.size, 4, none⟩ = some (.int .u64 0) ∧ w'.cell? ⟨w2.heap.size, 5, none⟩ = some (.int .u64 0) ∧ w'.cell? ⟨w2.heap.size, 6, none⟩ = some (.int .u64 0) ∧ w'.cell? ⟨w2.heap.size, 7, none⟩ = some (.int .u64 0))
    ((refine hS.out _ ?_; first | (with_reducible exact K.drew (Below.refl _ _)) | (with_reducible exact K.drew (K.alloc (Below.refl _ _) _)) | (with_reducible exact Below.refl _ _) | (with_reducible exact K.call (by go_split_ands; assumption) hk) | (with_reducible exact K.alloc (by go_split_ands; assumption) _) | (with_reducible exact K.again (by go_split_ands; assumption) (by omega) _) | (with_reducible exact K.set (by go_split_ands; assumption) (by first | omega | (simp; done) | (simp; omega)) _) | (with_reducible exact K.set (K.set (K.set (K.set (by go_split_ands; assumption) (by first | omega | (simp; done) | (simp; omega)) _) (by first | omega | (simp; done) | (simp; omega)) _) (by first | omega | (simp; done) | (simp; omega)) _) (by first | omega | (simp; done) | (simp; omega)) _)))
    (first
      | (go_at_call 13; with_reducible refine Calls.mono (awake_any _) ?_; rintro e wz ⟨rfl, hk⟩; have hz := hk.size; (try simp at hz); obtain ⟨hc, hf⟩ := bcell hk; have hl := lt_keep hk)
      | (go_at_call 22; with_reducible refine Calls.mono (mul_any ha hb _) ?_; rintro e wz ⟨rfl, hk⟩; have hz := hk.size; (try simp at hz); obtain ⟨hc, hf⟩ := bcell hk; have hl := lt_keep hk)
      | (go_at_call 22; with_reducible refine Calls.mono (mul_turn ha hb _) ?_; rintro e wz ⟨rfl, hk⟩; have hz := hk.size; (try simp at hz); obtain ⟨hc, hf⟩ := bcell hk; have hl := lt_keep hk)
      | (go_at_call 22; with_reducible refine Calls.mono (mul_none ha _) ?_; rintro e wz ⟨rfl, hk⟩; have hz := hk.size; (try simp at hz); obtain ⟨hc, hf⟩ := bcell hk; have hl := lt_keep hk))
  have hH := ‹Below _ _ _ ∧ _›
  have A3 := A2.keep hH.1
  have B3 := B2.keep hH.1
  have C3 := C2.keep hH.1
  have S3 := S2.keep hH.1
  have hw3 := K.call hw hH.1
  clear hH hS A2 B2 C2 S2 hw O0 O1 O2 O3 O4 O5 O6 O7
  cases ho : over b c
  · have HO := hide ho
    have hS : Hid (∀ w', Below wz.heap.size wz w' → (Below wz.heap.size wz w' ∧ w'.cell? ⟨w.heap.size, 0, none⟩ = some (.int .u64 (L 0 a)) ∧ w'.cell? ⟨w.heap.size, 1, none⟩ = some (.int .u64 (L 1 a)) ∧ w'.cell? ⟨w.heap.size, 2, none⟩ = some (.int .u64 (L 2 a)) ∧ w'.cell? ⟨w.heap.size, 3, none⟩ = some (.int .u64 (L 3 a)) ∧ w'.cell? ⟨w.heap.size + 1, 0, none⟩ = some (.int .u64 (L 0 b)) ∧ w'.cell? ⟨w.heap.size + 1, 1, none⟩ = some (.int .u64 (L 1 b)) ∧ w'.cell? ⟨w.heap.size + 1, 2, none⟩ = some (.int .u64 (L 2 b)) ∧ w'.cell? ⟨w.heap.size + 1, 3, none⟩ = some (.int .u64 (L 3 b)) ∧ w'.cell? ⟨w.heap.size + 1 + 1, 0, none⟩ = some (.int .u64 (L 0 c)) ∧ w'.cell? ⟨w.heap.size + 1 + 1, 1, none⟩ = some (.int .u64 (L 1 c)) ∧ w'.cell? ⟨w.heap.size + 1 + 1, 2, none⟩ = some (.int .u64 (L 2 c)) ∧ w'.cell? ⟨w.heap.size + 1 + 1, 3, none⟩ = some (.int .u64 (L 3 c)) ∧ w'.cell? ⟨w1.heap.size, 0, none⟩ = some (.int .u64 (L 0 (b + c))) ∧ w'.cell? ⟨w1.heap.size, 1, none⟩ = some (.int .u64 (L 1 (b + c))) ∧ w'.cell? ⟨w1.heap.size, 2, none⟩ = some (.int .u64 (L 2 (b + c))) ∧ w'.cell? ⟨w1.heap.size, 3, none⟩ = some (.int .u64 (L 3 (b + c))))) := fun w' hB => ⟨hB, later hB A3.c0, later hB A3.c1, later hB A3.c2, later hB A3.c3, later hB B3.c0, later hB B3.c1, later hB B3.c2, later hB B3.c3, later hB C3.c0, later hB C3.c1, later hB C3.c2, later hB C3.c3, later hB S3.c0, later hB S3.c1, later hB S3.c2, later hB S3.c3⟩
    go_wp2_with fail
    go_region_held3 (fun w' => Below wz.heap.size wz w' ∧ w'.cell? ⟨w.heap.size, 0, none⟩ = some (.int .u64 (L 0 a)) ∧ w'.cell? ⟨w.heap.size, 1, none⟩ = some (.int .u64 (L 1 a)) ∧ w'.cell? ⟨w.heap.size, 2, none⟩ = some (.int .u64 (L 2 a)) ∧ w'.cell? ⟨w.heap.size, 3, none⟩ = some (.int .u64 (L 3 a)) ∧ w'.cell? ⟨w.heap.size + 1, 0, none⟩ = some (.int .u64 (L 0 b)) ∧ w'.cell? ⟨w.heap.size + 1, 1, none⟩ = some (.int .u64 (L 1 b)) ∧ w'.cell? ⟨w.heap.size + 1, 2, none⟩ = some (.int .u64 (L 2 b)) ∧ w'.cell? ⟨w.heap.size + 1, 3, none⟩ = some (.int .u64 (L 3 b)) ∧ w'.cell? ⟨w.heap.size + 1 + 1, 0, none⟩ = some (.int .u64 (L 0 c)) ∧ w'.cell? ⟨w.heap.size + 1 + 1, 1, none⟩ = some (.int .u64 (L 1 c)) ∧ w'.cell? ⟨w.heap.size + 1 + 1, 2, none⟩ = some (.int .u64 (L 2 c)) ∧ w'.cell? ⟨w.heap.size + 1 + 1, 3, none⟩ = some (.int .u64 (L 3 c)) ∧ w'.cell? ⟨w1.heap.size, 0, none⟩ = some (.int .u64 (L 0 (b + c))) ∧ w'.cell? ⟨w1.heap.size, 1, none⟩ = some (.int .u64 (L 1 (b + c))) ∧ w'.cell? ⟨w1.heap.size, 2, none⟩ = some (.int .u64 (L 2 (b + c))) ∧ w'.cell? ⟨w1.heap.size, 3, none⟩ = some (.int .u64 (L 3 (b + c))))
      ((refine hS.out _ ?_; first | (with_reducible exact K.drew (Below.refl _ _)) | (with_reducible exact K.drew (K.alloc (Below.refl _ _) _)) | (with_reducible exact Below.refl _ _) | (with_reducible exact K.call (by go_split_ands; assumption) hk) | (with_reducible exact K.alloc (by go_split_ands; assumption) _) | (with_reducible exact K.again (by go_split_ands; assumption) (by omega) _) | (with_reducible exact K.set (by go_split_ands; assumption) (by first | omega | (simp; done) | (simp; omega)) _) | (with_reducible exact K.set (K.set (K.set (K.set (by go_split_ands; assumption) (by first | omega | (simp; done) | (simp; omega)) _) (by first | omega | (simp; done) | (simp; omega)) _) (by first | omega | (simp; done) | (simp; omega)) _) (by first | omega | (simp; done) | (simp; omega)) _)))
      (first
        | (go_at_call 22; with_reducible refine Calls.mono (mul_sum ha hb nc (unhide HO) _) ?_; rintro e w' ⟨rfl, hk⟩; have hz := hk.size; (try simp at hz); obtain ⟨hc, hf⟩ := bcell hk; have hl := lt_keep hk)
        | (go_at_call 22; with_reducible refine Calls.mono (mul_any ha hb _) ?_; rintro e w' ⟨rfl, hk⟩; have hz := hk.size; (try simp at hz); obtain ⟨hc, hf⟩ := bcell hk; have hl := lt_keep hk)
        | (go_at_call 22; with_reducible refine Calls.mono (mul_any ha nc _) ?_; rintro e w' ⟨rfl, hk⟩; have hz := hk.size; (try simp at hz); obtain ⟨hc, hf⟩ := bcell hk; have hl := lt_keep hk)
        | (go_at_call 24; with_reducible refine Calls.mono (sum_any (a * b) (a * c) _) ?_; rintro e w' ⟨rfl, hk⟩; have hz := hk.size; (try simp at hz); obtain ⟨hc, hf⟩ := bcell hk; have hl := lt_keep hk))
    have hH := ‹Below _ _ _ ∧ _›
    go_wp2
    go_ret
    exact ⟨rfl, K.call hw3 hH.1⟩
  · go_wp2_with fail
    go_quiet (fail)
    go_wp2
    go_ret
    exact ⟨rfl, K.drewN hw3 _⟩
end Go.Proofs.Ytehlkgpoekpllaa
