/- FieldLess, walked: all that comes out is less than the modulus, and a product is the Wide product, reduced. -/
import Derived.Test.YtelanboegjgcbaaDoorFnRed
import Derived.Test.YtelanboegjgcbaaDoorFnMod
import Derived.Test.YtelanboegjgcbaaDoorRefMul
import Derived.Test.YtelanboegjgcbaaDoorRefLess
import Derived.Test.YtelanboegjgcbaaDoorAwake
import Derived.Deep.DeepCutAuto
namespace Go.Proofs.YtelanboegjgcbaaDoor
open Go.RowKit
attribute [local go_sem ↓] Go.wp_at_zero Go.wp_at_succ
attribute [local go_sem] eq4

set_option maxHeartbeats 8000000 in
theorem fless_walk {k a b : Int} (k0 : 0 ≤ k) (k1 : k ≤ 255) (ha : Num a) (hb : Num b) {w : World} (hT : Tab w) :
    Calls Tryd.prog 8 #[.int .u8 k, .agg #[.int .u64 (L 0 a), .int .u64 (L 1 a), .int .u64 (L 2 a), .int .u64 (L 3 a)], .agg #[.int .u64 (L 0 b), .int .u64 (L 1 b), .int .u64 (L 2 b), .int .u64 (L 3 b)]] w fun e w' => e = .returned (.bool true) ∧ Below w.heap.size w w' := by
  obtain ⟨n, hn, hnk⟩ : ∃ n, (0 ≤ n ∧ n ≤ 3) ∧ k % 4 = n := ⟨_, k_four k, rfl⟩
  have C0 : Hid (∀ w : World, Tab w → Calls Tryd.prog 10 #[.int .i64 n] w fun e w' => e = .returned (.agg #[.int .u64 (L 0 (md n)), .int .u64 (L 1 (md n)), .int .u64 (L 2 (md n)), .int .u64 (L 3 (md n))]) ∧ Below w.heap.size w w') := fun w hT => f_mod n hT
  have C1 : Hid (∀ w : World, Tab w → Calls Tryd.prog 16 #[.int .i64 n, .agg #[.int .u64 (L 0 a), .int .u64 (L 1 a), .int .u64 (L 2 a), .int .u64 (L 3 a)], .agg #[.int .u64 (L 0 b), .int .u64 (L 1 b), .int .u64 (L 2 b), .int .u64 (L 3 b)]] w fun e w' => e = .returned (.agg #[.int .u64 (L 0 (a * b % md n)), .int .u64 (L 1 (a * b % md n)), .int .u64 (L 2 (a * b % md n)), .int .u64 (L 3 (a * b % md n))]) ∧ Below w.heap.size w w') := fun w hT => f_mul hn ha hb hT
  have C3 : Hid (∀ w : World, Tab w → Calls Tryd.prog 19 #[.int .i64 n, .agg #[.int .u64 (L 0 (a * b)), .int .u64 (L 1 (a * b)), .int .u64 (L 2 (a * b)), .int .u64 (L 3 (a * b)), .int .u64 (L 4 (a * b)), .int .u64 (L 5 (a * b)), .int .u64 (L 6 (a * b)), .int .u64 (L 7 (a * b))]] w fun e w' => e = .returned (.agg #[.int .u64 (L 0 (a * b % md n)), .int .u64 (L 1 (a * b % md n)), .int .u64 (L 2 (a * b % md n)), .int .u64 (L 3 (a * b % md n))]) ∧ Below w.heap.size w w') := fun w hT => f_reduce hn (mul_wide ha hb) hT
  have C5 : Hid (∀ w : World, Tab w → Calls Tryd.prog 14 #[.int .i64 n, .agg #[.int .u64 (L 0 a), .int .u64 (L 1 a), .int .u64 (L 2 a), .int .u64 (L 3 a)], .agg #[.int .u64 (L 0 b), .int .u64 (L 1 b), .int .u64 (L 2 b), .int .u64 (L 3 b)]] w fun e w' => e = .returned (.agg #[.int .u64 (L 0 ((a + b) % md n)), .int .u64 (L 1 ((a + b) % md n)), .int .u64 (L 2 ((a + b) % md n)), .int .u64 (L 3 ((a + b) % md n))]) ∧ Below w.heap.size w w') := fun w hT => f_add hn ha hb hT
  have C7 : Hid (∀ w : World, Tab w → Calls Tryd.prog 15 #[.int .i64 n, .agg #[.int .u64 (L 0 a), .int .u64 (L 1 a), .int .u64 (L 2 a), .int .u64 (L 3 a)], .agg #[.int .u64 (L 0 b), .int .u64 (L 1 b), .int .u64 (L 2 b), .int .u64 (L 3 b)]] w fun e w' => e = .returned (.agg #[.int .u64 (L 0 ((a - b) % md n)), .int .u64 (L 1 ((a - b) % md n)), .int .u64 (L 2 ((a - b) % md n)), .int .u64 (L 3 ((a - b) % md n))]) ∧ Below w.heap.size w w') := fun w hT => f_sub hn ha hb hT
  have C9 : Hid (∀ w : World, Tab w → Calls Tryd.prog 12 #[.int .i64 n, .agg #[.int .u64 (L 0 a), .int .u64 (L 1 a), .int .u64 (L 2 a), .int .u64 (L 3 a)]] w fun e w' => e = .returned (.agg #[.int .u64 (L 0 (a % md n)), .int .u64 (L 1 (a % md n)), .int .u64 (L 2 (a % md n)), .int .u64 (L 3 (a % md n))]) ∧ Below w.heap.size w w') := fun w hT => f_fold hn ha hT
  have C2 : Hid (∀ w : World, Calls Tryd.prog 26 #[.agg #[.int .u64 (L 0 a), .int .u64 (L 1 a), .int .u64 (L 2 a), .int .u64 (L 3 a)], .agg #[.int .u64 (L 0 b), .int .u64 (L 1 b), .int .u64 (L 2 b), .int .u64 (L 3 b)]] w fun e w' => e = .returned (.agg #[.int .u64 (L 0 (a * b)), .int .u64 (L 1 (a * b)), .int .u64 (L 2 (a * b)), .int .u64 (L 3 (a * b)), .int .u64 (L 4 (a * b)), .int .u64 (L 5 (a * b)), .int .u64 (L 6 (a * b)), .int .u64 (L 7 (a * b))]) ∧ Below w.heap.size w w') := fun w => ref_mul_any ha hb w
  have C4 : Hid (∀ w : World, Calls Tryd.prog 27 #[.agg #[.int .u64 (L 0 (a * b % md n)), .int .u64 (L 1 (a * b % md n)), .int .u64 (L 2 (a * b % md n)), .int .u64 (L 3 (a * b % md n))], .agg #[.int .u64 (L 0 (md n)), .int .u64 (L 1 (md n)), .int .u64 (L 2 (md n)), .int .u64 (L 3 (md n))]] w fun e w' => e = .returned (.bool true) ∧ Below w.heap.size w w') := fun w => less_true (num_f hn) (md_num n) (Int.emod_lt_of_pos _ (md_pos hn)) w
  have C6 : Hid (∀ w : World, Calls Tryd.prog 27 #[.agg #[.int .u64 (L 0 ((a + b) % md n)), .int .u64 (L 1 ((a + b) % md n)), .int .u64 (L 2 ((a + b) % md n)), .int .u64 (L 3 ((a + b) % md n))], .agg #[.int .u64 (L 0 (md n)), .int .u64 (L 1 (md n)), .int .u64 (L 2 (md n)), .int .u64 (L 3 (md n))]] w fun e w' => e = .returned (.bool true) ∧ Below w.heap.size w w') := fun w => less_true (num_f hn) (md_num n) (Int.emod_lt_of_pos _ (md_pos hn)) w
  have C8 : Hid (∀ w : World, Calls Tryd.prog 27 #[.agg #[.int .u64 (L 0 ((a - b) % md n)), .int .u64 (L 1 ((a - b) % md n)), .int .u64 (L 2 ((a - b) % md n)), .int .u64 (L 3 ((a - b) % md n))], .agg #[.int .u64 (L 0 (md n)), .int .u64 (L 1 (md n)), .int .u64 (L 2 (md n)), .int .u64 (L 3 (md n))]] w fun e w' => e = .returned (.bool true) ∧ Below w.heap.size w w') := fun w => less_true (num_f hn) (md_num n) (Int.emod_lt_of_pos _ (md_pos hn)) w
  have C10 : Hid (∀ w : World, Calls Tryd.prog 27 #[.agg #[.int .u64 (L 0 (a % md n)), .int .u64 (L 1 (a % md n)), .int .u64 (L 2 (a % md n)), .int .u64 (L 3 (a % md n))], .agg #[.int .u64 (L 0 (md n)), .int .u64 (L 1 (md n)), .int .u64 (L 2 (md n)), .int .u64 (L 3 (md n))]] w fun e w' => e = .returned (.bool true) ∧ Below w.heap.size w w') := fun w => less_true (num_f hn) (md_num n) (Int.emod_lt_of_pos _ (md_pos hn)) w
  clear ha hb
  generalize a * b % md n = p at C0 C1 C3 C5 C7 C9 C2 C4 C6 C8 C10
  generalize (a + b) % md n = s at C0 C1 C3 C5 C7 C9 C2 C4 C6 C8 C10
  generalize (a - b) % md n = d at C0 C1 C3 C5 C7 C9 C2 C4 C6 C8 C10
  generalize a % md n = f at C0 C1 C3 C5 C7 C9 C2 C4 C6 C8 C10
  generalize a * b = x at C0 C1 C3 C5 C7 C9 C2 C4 C6 C8 C10
  generalize md n = m at C0 C1 C3 C5 C7 C9 C2 C4 C6 C8 C10
  clear hn
  go_enter Tryd.func8, Tryd.ntmps8
  go_wp2_with fail
  with_reducible refine Calls.mono (C0.out _ (hT.keep (K.alloc (K.alloc (Below.refl _ _) _) _))) ?_
  rintro e w1 ⟨rfl, hb1⟩
  have A1 := ((Arr.new w w.heap.size rfl 24 (L 0 a) (L 1 a) (L 2 a) (L 3 a)).alloc _).keep hb1 |>.alloc (.cells #[.int .u64 (L 0 m), .int .u64 (L 1 m), .int .u64 (L 2 m), .int .u64 (L 3 m)] 24)
  have B1 := (Arr.new _ (w.heap.size + 1) (by simp) 24 (L 0 b) (L 1 b) (L 2 b) (L 3 b)).keep hb1 |>.alloc (.cells #[.int .u64 (L 0 m), .int .u64 (L 1 m), .int .u64 (L 2 m), .int .u64 (L 3 m)] 24)
  have M1 := Arr.new w1 w1.heap.size rfl 24 (L 0 m) (L 1 m) (L 2 m) (L 3 m)
  have hw1 : Below w.heap.size w (w1.alloc (.cells #[.int .u64 (L 0 m), .int .u64 (L 1 m), .int .u64 (L 2 m), .int .u64 (L 3 m)] 24)) := K.alloc (K.call (K.alloc (K.alloc (Below.refl _ w) _) _) hb1) _
  have hT1 := hT.keep hw1
  clear hb1 hT
  have ⟨ka, ka0, ka1, ka2, ka3⟩ := A1
  have ⟨kb, kb0, kb1, kb2, kb3⟩ := B1
  go_wp2_with fail
  with_reducible refine Calls.mono (C1.out _ hT1) ?_
  clear ka ka0 ka1 ka2 ka3 kb kb0 kb1 kb2 kb3
  rintro e w2 ⟨rfl, hb2⟩
  have A2 := (A1.keep hb2).alloc (.cells #[.int .u64 (L 0 p), .int .u64 (L 1 p), .int .u64 (L 2 p), .int .u64 (L 3 p)] 24)
  have B2 := (B1.keep hb2).alloc (.cells #[.int .u64 (L 0 p), .int .u64 (L 1 p), .int .u64 (L 2 p), .int .u64 (L 3 p)] 24)
  have M2 := (M1.keep hb2).alloc (.cells #[.int .u64 (L 0 p), .int .u64 (L 1 p), .int .u64 (L 2 p), .int .u64 (L 3 p)] 24)
  have P2 := Arr.new w2 w2.heap.size rfl 24 (L 0 p) (L 1 p) (L 2 p) (L 3 p)
  have hw2 : Below w.heap.size w (w2.alloc (.cells #[.int .u64 (L 0 p), .int .u64 (L 1 p), .int .u64 (L 2 p), .int .u64 (L 3 p)] 24)) := K.alloc (K.call hw1 hb2) _
  have hT2 := (hT1.keep hb2).keep (K.alloc (Below.refl _ _) (.cells #[.int .u64 (L 0 p), .int .u64 (L 1 p), .int .u64 (L 2 p), .int .u64 (L 3 p)] 24))
  clear hb2 hT1 A1 B1 M1 hw1
  go_wp2_with fail
  generalize w1.heap.size = bm at *
  generalize w2.heap.size = bq at *
  generalize w2.alloc (.cells #[.int .u64 (L 0 p), .int .u64 (L 1 p), .int .u64 (L 2 p), .int .u64 (L 3 p)] 24) = W0 at *
  clear w1 w2
  have hTW : Hid (∀ w', Below W0.heap.size W0 w' → Tab w') := fun w' h => hT2.keep h
  have ⟨ka, ka0, ka1, ka2, ka3⟩ := A2
  have ⟨kb, kb0, kb1, kb2, kb3⟩ := B2
  have ⟨km, km0, km1, km2, km3⟩ := M2
  have ⟨kp, kp0, kp1, kp2, kp3⟩ := P2
  have hS : Hid (∀ w', Below W0.heap.size W0 w' → (Below W0.heap.size W0 w' ∧ w'.cell? ⟨w.heap.size, 0, none⟩ = some (.int .u64 (L 0 a)) ∧ w'.cell? ⟨w.heap.size, 1, none⟩ = some (.int .u64 (L 1 a)) ∧ w'.cell? ⟨w.heap.size, 2, none⟩ = some (.int .u64 (L 2 a)) ∧ w'.cell? ⟨w.heap.size, 3, none⟩ = some (.int .u64 (L 3 a)) ∧ w'.cell? ⟨w.heap.size + 1, 0, none⟩ = some (.int .u64 (L 0 b)) ∧ w'.cell? ⟨w.heap.size + 1, 1, none⟩ = some (.int .u64 (L 1 b)) ∧ w'.cell? ⟨w.heap.size + 1, 2, none⟩ = some (.int .u64 (L 2 b)) ∧ w'.cell? ⟨w.heap.size + 1, 3, none⟩ = some (.int .u64 (L 3 b)) ∧ w'.cell? ⟨bm, 0, none⟩ = some (.int .u64 (L 0 m)) ∧ w'.cell? ⟨bm, 1, none⟩ = some (.int .u64 (L 1 m)) ∧ w'.cell? ⟨bm, 2, none⟩ = some (.int .u64 (L 2 m)) ∧ w'.cell? ⟨bm, 3, none⟩ = some (.int .u64 (L 3 m)) ∧ w'.cell? ⟨bq, 0, none⟩ = some (.int .u64 (L 0 p)) ∧ w'.cell? ⟨bq, 1, none⟩ = some (.int .u64 (L 1 p)) ∧ w'.cell? ⟨bq, 2, none⟩ = some (.int .u64 (L 2 p)) ∧ w'.cell? ⟨bq, 3, none⟩ = some (.int .u64 (L 3 p)))) := fun w' hB => ⟨hB, later hB ka0, later hB ka1, later hB ka2, later hB ka3, later hB kb0, later hB kb1, later hB kb2, later hB kb3, later hB km0, later hB km1, later hB km2, later hB km3, later hB kp0, later hB kp1, later hB kp2, later hB kp3⟩
  clear ka0 ka1 ka2 ka3 kb0 kb1 kb2 kb3 km0 km1 km2 km3 kp0 kp1 kp2 kp3 ka kb km kp
  go_cut [29] (fun s29 wc => s29 = .bool false ∧ Below W0.heap.size W0 wc)
  case first =>
    go_region_held3 (fun w' => Below W0.heap.size W0 w' ∧ w'.cell? ⟨w.heap.size, 0, none⟩ = some (.int .u64 (L 0 a)) ∧ w'.cell? ⟨w.heap.size, 1, none⟩ = some (.int .u64 (L 1 a)) ∧ w'.cell? ⟨w.heap.size, 2, none⟩ = some (.int .u64 (L 2 a)) ∧ w'.cell? ⟨w.heap.size, 3, none⟩ = some (.int .u64 (L 3 a)) ∧ w'.cell? ⟨w.heap.size + 1, 0, none⟩ = some (.int .u64 (L 0 b)) ∧ w'.cell? ⟨w.heap.size + 1, 1, none⟩ = some (.int .u64 (L 1 b)) ∧ w'.cell? ⟨w.heap.size + 1, 2, none⟩ = some (.int .u64 (L 2 b)) ∧ w'.cell? ⟨w.heap.size + 1, 3, none⟩ = some (.int .u64 (L 3 b)) ∧ w'.cell? ⟨bm, 0, none⟩ = some (.int .u64 (L 0 m)) ∧ w'.cell? ⟨bm, 1, none⟩ = some (.int .u64 (L 1 m)) ∧ w'.cell? ⟨bm, 2, none⟩ = some (.int .u64 (L 2 m)) ∧ w'.cell? ⟨bm, 3, none⟩ = some (.int .u64 (L 3 m)) ∧ w'.cell? ⟨bq, 0, none⟩ = some (.int .u64 (L 0 p)) ∧ w'.cell? ⟨bq, 1, none⟩ = some (.int .u64 (L 1 p)) ∧ w'.cell? ⟨bq, 2, none⟩ = some (.int .u64 (L 2 p)) ∧ w'.cell? ⟨bq, 3, none⟩ = some (.int .u64 (L 3 p)))
      ((refine hS.out _ ?_; first | (with_reducible exact K.drew (Below.refl _ _)) | (with_reducible exact K.drew (K.alloc (Below.refl _ _) _)) | (with_reducible exact Below.refl _ _) | (with_reducible exact K.call (by go_split_ands; assumption) hk) | (with_reducible exact K.alloc (by go_split_ands; assumption) _) | (with_reducible exact K.again (by go_split_ands; assumption) (by omega) _) | (with_reducible exact K.set (by go_split_ands; assumption) (by first | omega | (simp; done) | (simp; omega)) _) | (with_reducible exact K.set (K.set (K.set (K.set (by go_split_ands; assumption) (by first | omega | (simp; done) | (simp; omega)) _) (by first | omega | (simp; done) | (simp; omega)) _) (by first | omega | (simp; done) | (simp; omega)) _) (by first | omega | (simp; done) | (simp; omega)) _)))
      (first
      | (go_at_call 9; with_reducible refine Calls.mono (awake_any (hTW.out _ (by go_split_ands; assumption))) ?_; rintro e w' ⟨rfl, hk⟩; have hz := hk.size; (try simp at hz); obtain ⟨hc, hf⟩ := bcell hk; have hl := lt_keep hk)
      | (go_at_call 16; with_reducible refine Calls.mono (C1.out _ (hTW.out _ (by go_split_ands; assumption))) ?_; rintro e w' ⟨rfl, hk⟩; have hz := hk.size; (try simp at hz); obtain ⟨hc, hf⟩ := bcell hk; have hl := lt_keep hk)
      | (go_at_call 19; with_reducible refine Calls.mono (C3.out _ (hTW.out _ (by go_split_ands; assumption))) ?_; rintro e w' ⟨rfl, hk⟩; have hz := hk.size; (try simp at hz); obtain ⟨hc, hf⟩ := bcell hk; have hl := lt_keep hk)
      | (go_at_call 14; with_reducible refine Calls.mono (C5.out _ (hTW.out _ (by go_split_ands; assumption))) ?_; rintro e w' ⟨rfl, hk⟩; have hz := hk.size; (try simp at hz); obtain ⟨hc, hf⟩ := bcell hk; have hl := lt_keep hk)
      | (go_at_call 15; with_reducible refine Calls.mono (C7.out _ (hTW.out _ (by go_split_ands; assumption))) ?_; rintro e w' ⟨rfl, hk⟩; have hz := hk.size; (try simp at hz); obtain ⟨hc, hf⟩ := bcell hk; have hl := lt_keep hk)
      | (go_at_call 12; with_reducible refine Calls.mono (C9.out _ (hTW.out _ (by go_split_ands; assumption))) ?_; rintro e w' ⟨rfl, hk⟩; have hz := hk.size; (try simp at hz); obtain ⟨hc, hf⟩ := bcell hk; have hl := lt_keep hk)
      | (go_at_call 26; with_reducible refine Calls.mono (C2.out _) ?_; rintro e w' ⟨rfl, hk⟩; have hz := hk.size; (try simp at hz); obtain ⟨hc, hf⟩ := bcell hk; have hl := lt_keep hk)
      | (go_at_call 27; with_reducible refine Calls.mono (C4.out _) ?_; rintro e w' ⟨rfl, hk⟩; have hz := hk.size; (try simp at hz); obtain ⟨hc, hf⟩ := bcell hk; have hl := lt_keep hk)
      | (go_at_call 27; with_reducible refine Calls.mono (C6.out _) ?_; rintro e w' ⟨rfl, hk⟩; have hz := hk.size; (try simp at hz); obtain ⟨hc, hf⟩ := bcell hk; have hl := lt_keep hk)
      | (go_at_call 27; with_reducible refine Calls.mono (C8.out _) ?_; rintro e w' ⟨rfl, hk⟩; have hz := hk.size; (try simp at hz); obtain ⟨hc, hf⟩ := bcell hk; have hl := lt_keep hk)
      | (go_at_call 27; with_reducible refine Calls.mono (C10.out _) ?_; rintro e w' ⟨rfl, hk⟩; have hz := hk.size; (try simp at hz); obtain ⟨hc, hf⟩ := bcell hk; have hl := lt_keep hk))
    all_goals
      have hH := ‹Below _ _ _ ∧ _›
      (try go_wp2_with fail)
      go_meet
      exact ⟨rfl, hH.1⟩
  case rest =>
  obtain ⟨rfl, hW⟩ := hcut
  have A3 := A2.keep hW
  have B3 := B2.keep hW
  have M3 := M2.keep hW
  have P3 := P2.keep hW
  have hT3 := hT2.keep hW
  have hw3 := K.call hw2 hW
  clear A2 B2 M2 P2 hT2 hw2 hW hTW hS
  have hTW : Hid (∀ w', Below wc.heap.size wc w' → Tab w') := fun w' h => hT3.keep h
  have ⟨ka, ka0, ka1, ka2, ka3⟩ := A3
  have ⟨kb, kb0, kb1, kb2, kb3⟩ := B3
  have ⟨km, km0, km1, km2, km3⟩ := M3
  have ⟨kp, kp0, kp1, kp2, kp3⟩ := P3
  have hS : Hid (∀ w', Below wc.heap.size wc w' → (Below wc.heap.size wc w' ∧ w'.cell? ⟨w.heap.size, 0, none⟩ = some (.int .u64 (L 0 a)) ∧ w'.cell? ⟨w.heap.size, 1, none⟩ = some (.int .u64 (L 1 a)) ∧ w'.cell? ⟨w.heap.size, 2, none⟩ = some (.int .u64 (L 2 a)) ∧ w'.cell? ⟨w.heap.size, 3, none⟩ = some (.int .u64 (L 3 a)) ∧ w'.cell? ⟨w.heap.size + 1, 0, none⟩ = some (.int .u64 (L 0 b)) ∧ w'.cell? ⟨w.heap.size + 1, 1, none⟩ = some (.int .u64 (L 1 b)) ∧ w'.cell? ⟨w.heap.size + 1, 2, none⟩ = some (.int .u64 (L 2 b)) ∧ w'.cell? ⟨w.heap.size + 1, 3, none⟩ = some (.int .u64 (L 3 b)) ∧ w'.cell? ⟨bm, 0, none⟩ = some (.int .u64 (L 0 m)) ∧ w'.cell? ⟨bm, 1, none⟩ = some (.int .u64 (L 1 m)) ∧ w'.cell? ⟨bm, 2, none⟩ = some (.int .u64 (L 2 m)) ∧ w'.cell? ⟨bm, 3, none⟩ = some (.int .u64 (L 3 m)) ∧ w'.cell? ⟨bq, 0, none⟩ = some (.int .u64 (L 0 p)) ∧ w'.cell? ⟨bq, 1, none⟩ = some (.int .u64 (L 1 p)) ∧ w'.cell? ⟨bq, 2, none⟩ = some (.int .u64 (L 2 p)) ∧ w'.cell? ⟨bq, 3, none⟩ = some (.int .u64 (L 3 p)))) := fun w' hB => ⟨hB, later hB ka0, later hB ka1, later hB ka2, later hB ka3, later hB kb0, later hB kb1, later hB kb2, later hB kb3, later hB km0, later hB km1, later hB km2, later hB km3, later hB kp0, later hB kp1, later hB kp2, later hB kp3⟩
  clear ka0 ka1 ka2 ka3 kb0 kb1 kb2 kb3 km0 km1 km2 km3 kp0 kp1 kp2 kp3 ka kb km kp A3 B3 M3 P3
  go_wp2_with fail
  go_region_held3 (fun w' => Below wc.heap.size wc w' ∧ w'.cell? ⟨w.heap.size, 0, none⟩ = some (.int .u64 (L 0 a)) ∧ w'.cell? ⟨w.heap.size, 1, none⟩ = some (.int .u64 (L 1 a)) ∧ w'.cell? ⟨w.heap.size, 2, none⟩ = some (.int .u64 (L 2 a)) ∧ w'.cell? ⟨w.heap.size, 3, none⟩ = some (.int .u64 (L 3 a)) ∧ w'.cell? ⟨w.heap.size + 1, 0, none⟩ = some (.int .u64 (L 0 b)) ∧ w'.cell? ⟨w.heap.size + 1, 1, none⟩ = some (.int .u64 (L 1 b)) ∧ w'.cell? ⟨w.heap.size + 1, 2, none⟩ = some (.int .u64 (L 2 b)) ∧ w'.cell? ⟨w.heap.size + 1, 3, none⟩ = some (.int .u64 (L 3 b)) ∧ w'.cell? ⟨bm, 0, none⟩ = some (.int .u64 (L 0 m)) ∧ w'.cell? ⟨bm, 1, none⟩ = some (.int .u64 (L 1 m)) ∧ w'.cell? ⟨bm, 2, none⟩ = some (.int .u64 (L 2 m)) ∧ w'.cell? ⟨bm, 3, none⟩ = some (.int .u64 (L 3 m)) ∧ w'.cell? ⟨bq, 0, none⟩ = some (.int .u64 (L 0 p)) ∧ w'.cell? ⟨bq, 1, none⟩ = some (.int .u64 (L 1 p)) ∧ w'.cell? ⟨bq, 2, none⟩ = some (.int .u64 (L 2 p)) ∧ w'.cell? ⟨bq, 3, none⟩ = some (.int .u64 (L 3 p)))
    ((refine hS.out _ ?_; first | (with_reducible exact K.drew (Below.refl _ _)) | (with_reducible exact K.drew (K.alloc (Below.refl _ _) _)) | (with_reducible exact Below.refl _ _) | (with_reducible exact K.call (by go_split_ands; assumption) hk) | (with_reducible exact K.alloc (by go_split_ands; assumption) _) | (with_reducible exact K.again (by go_split_ands; assumption) (by omega) _) | (with_reducible exact K.set (by go_split_ands; assumption) (by first | omega | (simp; done) | (simp; omega)) _) | (with_reducible exact K.set (K.set (K.set (K.set (by go_split_ands; assumption) (by first | omega | (simp; done) | (simp; omega)) _) (by first | omega | (simp; done) | (simp; omega)) _) (by first | omega | (simp; done) | (simp; omega)) _) (by first | omega | (simp; done) | (simp; omega)) _)))
    (first
      | (go_at_call 9; with_reducible refine Calls.mono (awake_any (hTW.out _ (by go_split_ands; assumption))) ?_; rintro e w' ⟨rfl, hk⟩; have hz := hk.size; (try simp at hz); obtain ⟨hc, hf⟩ := bcell hk; have hl := lt_keep hk)
      | (go_at_call 16; with_reducible refine Calls.mono (C1.out _ (hTW.out _ (by go_split_ands; assumption))) ?_; rintro e w' ⟨rfl, hk⟩; have hz := hk.size; (try simp at hz); obtain ⟨hc, hf⟩ := bcell hk; have hl := lt_keep hk)
      | (go_at_call 19; with_reducible refine Calls.mono (C3.out _ (hTW.out _ (by go_split_ands; assumption))) ?_; rintro e w' ⟨rfl, hk⟩; have hz := hk.size; (try simp at hz); obtain ⟨hc, hf⟩ := bcell hk; have hl := lt_keep hk)
      | (go_at_call 14; with_reducible refine Calls.mono (C5.out _ (hTW.out _ (by go_split_ands; assumption))) ?_; rintro e w' ⟨rfl, hk⟩; have hz := hk.size; (try simp at hz); obtain ⟨hc, hf⟩ := bcell hk; have hl := lt_keep hk)
      | (go_at_call 15; with_reducible refine Calls.mono (C7.out _ (hTW.out _ (by go_split_ands; assumption))) ?_; rintro e w' ⟨rfl, hk⟩; have hz := hk.size; (try simp at hz); obtain ⟨hc, hf⟩ := bcell hk; have hl := lt_keep hk)
      | (go_at_call 12; with_reducible refine Calls.mono (C9.out _ (hTW.out _ (by go_split_ands; assumption))) ?_; rintro e w' ⟨rfl, hk⟩; have hz := hk.size; (try simp at hz); obtain ⟨hc, hf⟩ := bcell hk; have hl := lt_keep hk)
      | (go_at_call 26; with_reducible refine Calls.mono (C2.out _) ?_; rintro e w' ⟨rfl, hk⟩; have hz := hk.size; (try simp at hz); obtain ⟨hc, hf⟩ := bcell hk; have hl := lt_keep hk)
      | (go_at_call 27; with_reducible refine Calls.mono (C4.out _) ?_; rintro e w' ⟨rfl, hk⟩; have hz := hk.size; (try simp at hz); obtain ⟨hc, hf⟩ := bcell hk; have hl := lt_keep hk)
      | (go_at_call 27; with_reducible refine Calls.mono (C6.out _) ?_; rintro e w' ⟨rfl, hk⟩; have hz := hk.size; (try simp at hz); obtain ⟨hc, hf⟩ := bcell hk; have hl := lt_keep hk)
      | (go_at_call 27; with_reducible refine Calls.mono (C8.out _) ?_; rintro e w' ⟨rfl, hk⟩; have hz := hk.size; (try simp at hz); obtain ⟨hc, hf⟩ := bcell hk; have hl := lt_keep hk)
      | (go_at_call 27; with_reducible refine Calls.mono (C10.out _) ?_; rintro e w' ⟨rfl, hk⟩; have hz := hk.size; (try simp at hz); obtain ⟨hc, hf⟩ := bcell hk; have hl := lt_keep hk))
  have hH := ‹Below _ _ _ ∧ _›
  go_wp2_with fail
  go_ret
  exact ⟨rfl, K.call hw3 hH.1⟩
end Go.Proofs.YtelanboegjgcbaaDoor
