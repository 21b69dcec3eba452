/- FieldReckons, walked: modulo each modulus all numbers are folded, added, subtracted and multiplied; modulo none there is nothing. -/
import Derived.Test.YtffkeabpdmpjbaaDoorRefSubF
import Derived.Test.YtffkeabpdmpjbaaDoorRefAddF
import Derived.Test.YtffkeabpdmpjbaaDoorNone2
import Derived.Test.YtffkeabpdmpjbaaDoorAwake
import Derived.Deep.DeepCutAuto
namespace Go.Proofs.YtffkeabpdmpjbaaDoor
open Go.RowKit
attribute [local go_sem ↓] Go.wp_at_zero Go.wp_at_succ
attribute [local go_sem] eq4

set_option maxHeartbeats 1000000 in
theorem ref_fold_none {k a : Int} (hn : k < 0 ∨ 3 < k) (w : World) : Calls Tryd.prog 9 #[.int .i64 k, .agg #[.int .u64 (L 0 a), .int .u64 (L 1 a), .int .u64 (L 2 a), .int .u64 (L 3 a)]] w fun e w' => e = .returned (.agg #[.int .u64 0, .int .u64 0, .int .u64 0, .int .u64 0]) ∧ Below w.heap.size w w' := by
  have HMO : Hid (∀ w : World, Calls Tryd.prog 7 #[.int .i64 k] w fun e w' => e = .returned (.agg #[.int .u64 0, .int .u64 0, .int .u64 0, .int .u64 0]) ∧ Below w.heap.size w w') := fun w => by
    have h := ref_mod_any k w
    rw [md_none hn, L_zero, L_zero, L_zero, L_zero] at h
    exact h
  clear hn
  go_enter Tryd.func9, Tryd.ntmps9
  go_wp2_with fail
  with_reducible refine Calls.mono (HMO.out _) ?_
  rintro e w1 ⟨rfl, hb1⟩
  have ⟨kr, kr0, kr1, kr2, kr3, kf0, kf1, kf2, kf3⟩ := (ArrW.new (w.alloc (.cells #[.int .u64 (L 0 a), .int .u64 (L 1 a), .int .u64 (L 2 a), .int .u64 (L 3 a)] 24)) (w.heap.size + 1) (by simp) 24 0 0 0 0).keep hb1
  have hw1 : Below w.heap.size w w1 := K.call (K.alloc (K.alloc (Below.refl _ w) _) _) hb1
  go_wp2_with fail
  exact bodyPost_ret (v := .agg #[.int .u64 0, .int .u64 0, .int .u64 0, .int .u64 0]) (by simp [results, Tryd.results9, go_sem, kr, kr0, kr1, kr2, kr3]) rfl ⟨rfl, by first | exact K.alloc (K.set4 hw1 (by omega) _ _ _ _) _ | exact K.set4 (K.alloc hw1 _) (by omega) _ _ _ _⟩

set_option maxRecDepth 100000 in
set_option maxHeartbeats 16000000 in
theorem reckons_in {k a b : Int} (hk : 0 ≤ k ∧ k ≤ 3) (ha : Num a) (hb : Num b) {w : World} (hT : Tab w) :
    Calls Tryd.prog 3 #[.int .i64 k, .agg #[.int .u64 (L 0 a), .int .u64 (L 1 a), .int .u64 (L 2 a), .int .u64 (L 3 a)], .agg #[.int .u64 (L 0 b), .int .u64 (L 1 b), .int .u64 (L 2 b), .int .u64 (L 3 b)]] w fun e w' => e = .returned (.bool true) ∧ Below w.heap.size w w' := by
  have hm := md_pos hk
  have hl := md_odd hk
  have C0 : Hid (∀ w : World, Tab w → Calls Tryd.prog 6 #[.int .i64 k] w fun e w' => e = .returned (.agg #[.int .u64 (L 0 (md k)), .int .u64 (L 1 (md k)), .int .u64 (L 2 (md k)), .int .u64 (L 3 (md k))]) ∧ Below w.heap.size w w') := fun w hT => f_mod k hT
  have C1 : Hid (∀ w : World, Calls Tryd.prog 7 #[.int .i64 k] w fun e w' => e = .returned (.agg #[.int .u64 (L 0 (md k)), .int .u64 (L 1 (md k)), .int .u64 (L 2 (md k)), .int .u64 (L 3 (md k))]) ∧ Below w.heap.size w w') := fun w => ref_mod_any k w
  have C2 : Hid (∀ w : World, Tab w → Calls Tryd.prog 8 #[.int .i64 k, .agg #[.int .u64 (L 0 a), .int .u64 (L 1 a), .int .u64 (L 2 a), .int .u64 (L 3 a)]] w fun e w' => e = .returned (.agg #[.int .u64 (L 0 (a % md k)), .int .u64 (L 1 (a % md k)), .int .u64 (L 2 (a % md k)), .int .u64 (L 3 (a % md k))]) ∧ Below w.heap.size w w') := fun w hT => f_fold hk ha hT
  have C3 : Hid (∀ w : World, Calls Tryd.prog 9 #[.int .i64 k, .agg #[.int .u64 (L 0 a), .int .u64 (L 1 a), .int .u64 (L 2 a), .int .u64 (L 3 a)]] w fun e w' => e = .returned (.agg #[.int .u64 (L 0 (a % md k)), .int .u64 (L 1 (a % md k)), .int .u64 (L 2 (a % md k)), .int .u64 (L 3 (a % md k))]) ∧ Below w.heap.size w w') := fun w => ref_fold_any ha hm hl w
  have C4 : Hid (∀ w : World, Tab w → Calls Tryd.prog 10 #[.int .i64 k, .agg #[.int .u64 (L 0 a), .int .u64 (L 1 a), .int .u64 (L 2 a), .int .u64 (L 3 a)], .agg #[.int .u64 (L 0 b), .int .u64 (L 1 b), .int .u64 (L 2 b), .int .u64 (L 3 b)]] w fun e w' => e = .returned (.agg #[.int .u64 (L 0 ((a + b) % md k)), .int .u64 (L 1 ((a + b) % md k)), .int .u64 (L 2 ((a + b) % md k)), .int .u64 (L 3 ((a + b) % md k))]) ∧ Below w.heap.size w w') := fun w hT => f_add hk ha hb hT
  have C5 : Hid (∀ w : World, Calls Tryd.prog 16 #[.int .i64 k, .agg #[.int .u64 (L 0 a), .int .u64 (L 1 a), .int .u64 (L 2 a), .int .u64 (L 3 a)], .agg #[.int .u64 (L 0 b), .int .u64 (L 1 b), .int .u64 (L 2 b), .int .u64 (L 3 b)]] w fun e w' => e = .returned (.agg #[.int .u64 (L 0 ((a + b) % md k)), .int .u64 (L 1 ((a + b) % md k)), .int .u64 (L 2 ((a + b) % md k)), .int .u64 (L 3 ((a + b) % md k))]) ∧ Below w.heap.size w w') := fun w => ref_addf_any ha hb hm hl w
  have C6 : Hid (∀ w : World, Tab w → Calls Tryd.prog 11 #[.int .i64 k, .agg #[.int .u64 (L 0 a), .int .u64 (L 1 a), .int .u64 (L 2 a), .int .u64 (L 3 a)], .agg #[.int .u64 (L 0 b), .int .u64 (L 1 b), .int .u64 (L 2 b), .int .u64 (L 3 b)]] w fun e w' => e = .returned (.agg #[.int .u64 (L 0 ((a - b) % md k)), .int .u64 (L 1 ((a - b) % md k)), .int .u64 (L 2 ((a - b) % md k)), .int .u64 (L 3 ((a - b) % md k))]) ∧ Below w.heap.size w w') := fun w hT => f_sub hk ha hb hT
  have C7 : Hid (∀ w : World, Calls Tryd.prog 17 #[.int .i64 k, .agg #[.int .u64 (L 0 a), .int .u64 (L 1 a), .int .u64 (L 2 a), .int .u64 (L 3 a)], .agg #[.int .u64 (L 0 b), .int .u64 (L 1 b), .int .u64 (L 2 b), .int .u64 (L 3 b)]] w fun e w' => e = .returned (.agg #[.int .u64 (L 0 ((a - b) % md k)), .int .u64 (L 1 ((a - b) % md k)), .int .u64 (L 2 ((a - b) % md k)), .int .u64 (L 3 ((a - b) % md k))]) ∧ Below w.heap.size w w') := fun w => ref_subf_any hk ha hb w
  have C8 : Hid (∀ w : World, Tab w → Calls Tryd.prog 12 #[.int .i64 k, .agg #[.int .u64 (L 0 a), .int .u64 (L 1 a), .int .u64 (L 2 a), .int .u64 (L 3 a)], .agg #[.int .u64 (L 0 b), .int .u64 (L 1 b), .int .u64 (L 2 b), .int .u64 (L 3 b)]] w fun e w' => e = .returned (.agg #[.int .u64 (L 0 (a * b % md k)), .int .u64 (L 1 (a * b % md k)), .int .u64 (L 2 (a * b % md k)), .int .u64 (L 3 (a * b % md k))]) ∧ Below w.heap.size w w') := fun w hT => f_mul hk ha hb hT
  have C9 : Hid (∀ w : World, Calls Tryd.prog 18 #[.int .i64 k, .agg #[.int .u64 (L 0 a), .int .u64 (L 1 a), .int .u64 (L 2 a), .int .u64 (L 3 a)], .agg #[.int .u64 (L 0 b), .int .u64 (L 1 b), .int .u64 (L 2 b), .int .u64 (L 3 b)]] w fun e w' => e = .returned (.agg #[.int .u64 (L 0 (a * b % md k)), .int .u64 (L 1 (a * b % md k)), .int .u64 (L 2 (a * b % md k)), .int .u64 (L 3 (a * b % md k))]) ∧ Below w.heap.size w w') := fun w => ref_mulf_any hk ha hb w
  clear ha hb hm hl
  generalize (a + b) % md k = s at C4 C5
  generalize (a - b) % md k = d at C6 C7
  generalize a * b % md k = p at C8 C9
  generalize a % md k = f at C2 C3
  generalize md k = m at C0 C1
  obtain ⟨hk0, hk3⟩ := hk
  go_enter Tryd.func3, Tryd.ntmps3
  go_wp2_with fail
  have A1 := (Arr.new w w.heap.size rfl 24 (L 0 a) (L 1 a) (L 2 a) (L 3 a)).alloc (.cells #[.int .u64 (L 0 b), .int .u64 (L 1 b), .int .u64 (L 2 b), .int .u64 (L 3 b)] 24)
  have B1 := Arr.new (w.alloc (.cells #[.int .u64 (L 0 a), .int .u64 (L 1 a), .int .u64 (L 2 a), .int .u64 (L 3 a)] 24)) (w.heap.size + 1) (by simp) 24 (L 0 b) (L 1 b) (L 2 b) (L 3 b)
  have hw1 : Below w.heap.size w ((w.alloc (.cells #[.int .u64 (L 0 a), .int .u64 (L 1 a), .int .u64 (L 2 a), .int .u64 (L 3 a)] 24)).alloc (.cells #[.int .u64 (L 0 b), .int .u64 (L 1 b), .int .u64 (L 2 b), .int .u64 (L 3 b)] 24)) := K.alloc (K.alloc (Below.refl _ w) _) _
  have hT1 := hT.keep hw1
  clear hT
  generalize (w.alloc (.cells #[.int .u64 (L 0 a), .int .u64 (L 1 a), .int .u64 (L 2 a), .int .u64 (L 3 a)] 24)).alloc (.cells #[.int .u64 (L 0 b), .int .u64 (L 1 b), .int .u64 (L 2 b), .int .u64 (L 3 b)] 24) = W0 at *
  have hTW : Hid (∀ w', Below W0.heap.size W0 w' → Tab w') := fun w' h => hT1.keep h
  have ⟨ka, ka0, ka1, ka2, ka3⟩ := A1
  have ⟨kb, kb0, kb1, kb2, kb3⟩ := B1
  have hS : Hid (∀ w', Below W0.heap.size W0 w' → (Below W0.heap.size W0 w' ∧ w'.cell? ⟨w.heap.size, 0, none⟩ = some (.int .u64 (L 0 a)) ∧ w'.cell? ⟨w.heap.size, 1, none⟩ = some (.int .u64 (L 1 a)) ∧ w'.cell? ⟨w.heap.size, 2, none⟩ = some (.int .u64 (L 2 a)) ∧ w'.cell? ⟨w.heap.size, 3, none⟩ = some (.int .u64 (L 3 a)) ∧ w'.cell? ⟨w.heap.size + 1, 0, none⟩ = some (.int .u64 (L 0 b)) ∧ w'.cell? ⟨w.heap.size + 1, 1, none⟩ = some (.int .u64 (L 1 b)) ∧ w'.cell? ⟨w.heap.size + 1, 2, none⟩ = some (.int .u64 (L 2 b)) ∧ w'.cell? ⟨w.heap.size + 1, 3, none⟩ = some (.int .u64 (L 3 b)))) := fun w' hB => ⟨hB, later hB ka0, later hB ka1, later hB ka2, later hB ka3, later hB kb0, later hB kb1, later hB kb2, later hB kb3⟩
  clear ka ka0 ka1 ka2 ka3 kb kb0 kb1 kb2 kb3 hT1
  go_cut [24] (fun s24 wc => s24 = .bool false ∧ Below W0.heap.size W0 wc)
  case first =>
    go_region_held3 (fun w' => Below W0.heap.size W0 w' ∧ w'.cell? ⟨w.heap.size, 0, none⟩ = some (.int .u64 (L 0 a)) ∧ w'.cell? ⟨w.heap.size, 1, none⟩ = some (.int .u64 (L 1 a)) ∧ w'.cell? ⟨w.heap.size, 2, none⟩ = some (.int .u64 (L 2 a)) ∧ w'.cell? ⟨w.heap.size, 3, none⟩ = some (.int .u64 (L 3 a)) ∧ w'.cell? ⟨w.heap.size + 1, 0, none⟩ = some (.int .u64 (L 0 b)) ∧ w'.cell? ⟨w.heap.size + 1, 1, none⟩ = some (.int .u64 (L 1 b)) ∧ w'.cell? ⟨w.heap.size + 1, 2, none⟩ = some (.int .u64 (L 2 b)) ∧ w'.cell? ⟨w.heap.size + 1, 3, none⟩ = some (.int .u64 (L 3 b)))
      ((refine hS.out _ ?_; first | (with_reducible exact K.drew (Below.refl _ _)) | (with_reducible exact K.drew (K.alloc (Below.refl _ _) _)) | (with_reducible exact Below.refl _ _) | (with_reducible exact K.call (by go_split_ands; assumption) hk) | (with_reducible exact K.alloc (by go_split_ands; assumption) _) | (with_reducible exact K.again (by go_split_ands; assumption) (by omega) _) | (with_reducible exact K.set (by go_split_ands; assumption) (by first | omega | (simp; done) | (simp; omega)) _) | (with_reducible exact K.set (K.set (K.set (K.set (by go_split_ands; assumption) (by first | omega | (simp; done) | (simp; omega)) _) (by first | omega | (simp; done) | (simp; omega)) _) (by first | omega | (simp; done) | (simp; omega)) _) (by first | omega | (simp; done) | (simp; omega)) _)))
      (first
        | (go_at_call 5; with_reducible refine Calls.mono (awake_any (hTW.out _ (by go_split_ands; assumption))) ?_; rintro e w' ⟨rfl, hk⟩; have hz := hk.size; (try simp at hz); obtain ⟨hc, hf⟩ := bcell hk; have hl := lt_keep hk)
        | (go_at_call 6; with_reducible refine Calls.mono (C0.out _ (hTW.out _ (by go_split_ands; assumption))) ?_; rintro e w' ⟨rfl, hk⟩; have hz := hk.size; (try simp at hz); obtain ⟨hc, hf⟩ := bcell hk; have hl := lt_keep hk)
        | (go_at_call 7; with_reducible refine Calls.mono (C1.out _) ?_; rintro e w' ⟨rfl, hk⟩; have hz := hk.size; (try simp at hz); obtain ⟨hc, hf⟩ := bcell hk; have hl := lt_keep hk)
        | (go_at_call 8; with_reducible refine Calls.mono (C2.out _ (hTW.out _ (by go_split_ands; assumption))) ?_; rintro e w' ⟨rfl, hk⟩; have hz := hk.size; (try simp at hz); obtain ⟨hc, hf⟩ := bcell hk; have hl := lt_keep hk)
        | (go_at_call 9; with_reducible refine Calls.mono (C3.out _) ?_; rintro e w' ⟨rfl, hk⟩; have hz := hk.size; (try simp at hz); obtain ⟨hc, hf⟩ := bcell hk; have hl := lt_keep hk))
    all_goals
      have hH := ‹Below _ _ _ ∧ _›
      (try go_wp2_with fail)
      go_meet
      exact ⟨rfl, hH.1⟩
  case rest =>
  obtain ⟨rfl, hb⟩ := hcut
  have A2 := A1.keep hb
  have B2 := B1.keep hb
  have hw2 : Below w.heap.size w wc := K.call hw1 hb
  have hTC : Hid (∀ w', Below wc.heap.size wc w' → Tab w') := fun w' h => hTW.out w' (K.call hb h)
  clear hS hb A1 B1 hw1 hTW C0 C1 C2 C3
  go_wp2_with fail
  have hTW := hTC
  generalize wc = W0 at *
  have ⟨ka, ka0, ka1, ka2, ka3⟩ := A2
  have ⟨kb, kb0, kb1, kb2, kb3⟩ := B2
  have hS : Hid (∀ w', Below W0.heap.size W0 w' → (Below W0.heap.size W0 w' ∧ w'.cell? ⟨w.heap.size, 0, none⟩ = some (.int .u64 (L 0 a)) ∧ w'.cell? ⟨w.heap.size, 1, none⟩ = some (.int .u64 (L 1 a)) ∧ w'.cell? ⟨w.heap.size, 2, none⟩ = some (.int .u64 (L 2 a)) ∧ w'.cell? ⟨w.heap.size, 3, none⟩ = some (.int .u64 (L 3 a)) ∧ w'.cell? ⟨w.heap.size + 1, 0, none⟩ = some (.int .u64 (L 0 b)) ∧ w'.cell? ⟨w.heap.size + 1, 1, none⟩ = some (.int .u64 (L 1 b)) ∧ w'.cell? ⟨w.heap.size + 1, 2, none⟩ = some (.int .u64 (L 2 b)) ∧ w'.cell? ⟨w.heap.size + 1, 3, none⟩ = some (.int .u64 (L 3 b)))) := fun w' hB => ⟨hB, later hB ka0, later hB ka1, later hB ka2, later hB ka3, later hB kb0, later hB kb1, later hB kb2, later hB kb3⟩
  clear ka ka0 ka1 ka2 ka3 kb kb0 kb1 kb2 kb3 A2 B2 hTC
  go_region_held3 (fun w' => Below W0.heap.size W0 w' ∧ w'.cell? ⟨w.heap.size, 0, none⟩ = some (.int .u64 (L 0 a)) ∧ w'.cell? ⟨w.heap.size, 1, none⟩ = some (.int .u64 (L 1 a)) ∧ w'.cell? ⟨w.heap.size, 2, none⟩ = some (.int .u64 (L 2 a)) ∧ w'.cell? ⟨w.heap.size, 3, none⟩ = some (.int .u64 (L 3 a)) ∧ w'.cell? ⟨w.heap.size + 1, 0, none⟩ = some (.int .u64 (L 0 b)) ∧ w'.cell? ⟨w.heap.size + 1, 1, none⟩ = some (.int .u64 (L 1 b)) ∧ w'.cell? ⟨w.heap.size + 1, 2, none⟩ = some (.int .u64 (L 2 b)) ∧ w'.cell? ⟨w.heap.size + 1, 3, none⟩ = some (.int .u64 (L 3 b)))
    ((refine hS.out _ ?_; first | (with_reducible exact K.drew (Below.refl _ _)) | (with_reducible exact K.drew (K.alloc (Below.refl _ _) _)) | (with_reducible exact Below.refl _ _) | (with_reducible exact K.call (by go_split_ands; assumption) hk) | (with_reducible exact K.alloc (by go_split_ands; assumption) _) | (with_reducible exact K.again (by go_split_ands; assumption) (by omega) _) | (with_reducible exact K.set (by go_split_ands; assumption) (by first | omega | (simp; done) | (simp; omega)) _) | (with_reducible exact K.set (K.set (K.set (K.set (by go_split_ands; assumption) (by first | omega | (simp; done) | (simp; omega)) _) (by first | omega | (simp; done) | (simp; omega)) _) (by first | omega | (simp; done) | (simp; omega)) _) (by first | omega | (simp; done) | (simp; omega)) _)))
    (first
      | (go_at_call 10; with_reducible refine Calls.mono (C4.out _ (hTW.out _ (by go_split_ands; assumption))) ?_; rintro e w' ⟨rfl, hk⟩; have hz := hk.size; (try simp at hz); obtain ⟨hc, hf⟩ := bcell hk; have hl := lt_keep hk)
      | (go_at_call 16; with_reducible refine Calls.mono (C5.out _) ?_; rintro e w' ⟨rfl, hk⟩; have hz := hk.size; (try simp at hz); obtain ⟨hc, hf⟩ := bcell hk; have hl := lt_keep hk)
      | (go_at_call 11; with_reducible refine Calls.mono (C6.out _ (hTW.out _ (by go_split_ands; assumption))) ?_; rintro e w' ⟨rfl, hk⟩; have hz := hk.size; (try simp at hz); obtain ⟨hc, hf⟩ := bcell hk; have hl := lt_keep hk)
      | (go_at_call 17; with_reducible refine Calls.mono (C7.out _) ?_; rintro e w' ⟨rfl, hk⟩; have hz := hk.size; (try simp at hz); obtain ⟨hc, hf⟩ := bcell hk; have hl := lt_keep hk)
      | (go_at_call 12; with_reducible refine Calls.mono (C8.out _ (hTW.out _ (by go_split_ands; assumption))) ?_; rintro e w' ⟨rfl, hk⟩; have hz := hk.size; (try simp at hz); obtain ⟨hc, hf⟩ := bcell hk; have hl := lt_keep hk)
      | (go_at_call 18; with_reducible refine Calls.mono (C9.out _) ?_; rintro e w' ⟨rfl, hk⟩; have hz := hk.size; (try simp at hz); obtain ⟨hc, hf⟩ := bcell hk; have hl := lt_keep hk))
  have hH := ‹Below _ _ _ ∧ _›
  go_wp2_with fail
  go_ret
  exact ⟨rfl, K.call hw2 hH.1⟩

set_option maxRecDepth 100000 in
set_option maxHeartbeats 16000000 in
theorem reckons_low {k a b : Int} (h0 : k < 0) (ha : Num a) (hb : Num b) {w : World} (hT : Tab w) :
    Calls Tryd.prog 3 #[.int .i64 k, .agg #[.int .u64 (L 0 a), .int .u64 (L 1 a), .int .u64 (L 2 a), .int .u64 (L 3 a)], .agg #[.int .u64 (L 0 b), .int .u64 (L 1 b), .int .u64 (L 2 b), .int .u64 (L 3 b)]] w fun e w' => e = .returned (.bool true) ∧ Below w.heap.size w w' := by
  have hn : k < 0 ∨ 3 < k := Or.inl h0
  have C0 : Hid (∀ w : World, Tab w → Calls Tryd.prog 6 #[.int .i64 k] w fun e w' => e = .returned (.agg #[.int .u64 (L 0 (md k)), .int .u64 (L 1 (md k)), .int .u64 (L 2 (md k)), .int .u64 (L 3 (md k))]) ∧ Below w.heap.size w w') := fun w hT => f_mod k hT
  have C1 : Hid (∀ w : World, Calls Tryd.prog 7 #[.int .i64 k] w fun e w' => e = .returned (.agg #[.int .u64 (L 0 (md k)), .int .u64 (L 1 (md k)), .int .u64 (L 2 (md k)), .int .u64 (L 3 (md k))]) ∧ Below w.heap.size w w') := fun w => ref_mod_any k w
  have C2 : Hid (∀ w : World, Tab w → Calls Tryd.prog 8 #[.int .i64 k, .agg #[.int .u64 (L 0 a), .int .u64 (L 1 a), .int .u64 (L 2 a), .int .u64 (L 3 a)]] w fun e w' => e = .returned (.agg #[.int .u64 0, .int .u64 0, .int .u64 0, .int .u64 0]) ∧ Below w.heap.size w w') := fun w hT => f_fold0 hn ha w
  have C3 : Hid (∀ w : World, Calls Tryd.prog 9 #[.int .i64 k, .agg #[.int .u64 (L 0 a), .int .u64 (L 1 a), .int .u64 (L 2 a), .int .u64 (L 3 a)]] w fun e w' => e = .returned (.agg #[.int .u64 0, .int .u64 0, .int .u64 0, .int .u64 0]) ∧ Below w.heap.size w w') := fun w => ref_fold_none hn w
  have C4 : Hid (∀ w : World, Calls Tryd.prog 10 #[.int .i64 k, .agg #[.int .u64 (L 0 a), .int .u64 (L 1 a), .int .u64 (L 2 a), .int .u64 (L 3 a)], .agg #[.int .u64 (L 0 b), .int .u64 (L 1 b), .int .u64 (L 2 b), .int .u64 (L 3 b)]] w fun e w' => e = .returned (.agg #[.int .u64 0, .int .u64 0, .int .u64 0, .int .u64 0]) ∧ Below w.heap.size w w') := fun w => f_add0 hn ha hb w
  have C5 : Hid (∀ w : World, Calls Tryd.prog 11 #[.int .i64 k, .agg #[.int .u64 (L 0 a), .int .u64 (L 1 a), .int .u64 (L 2 a), .int .u64 (L 3 a)], .agg #[.int .u64 (L 0 b), .int .u64 (L 1 b), .int .u64 (L 2 b), .int .u64 (L 3 b)]] w fun e w' => e = .returned (.agg #[.int .u64 0, .int .u64 0, .int .u64 0, .int .u64 0]) ∧ Below w.heap.size w w') := fun w => f_sub0 hn ha hb w
  have C6 : Hid (∀ w : World, Calls Tryd.prog 12 #[.int .i64 k, .agg #[.int .u64 (L 0 a), .int .u64 (L 1 a), .int .u64 (L 2 a), .int .u64 (L 3 a)], .agg #[.int .u64 (L 0 b), .int .u64 (L 1 b), .int .u64 (L 2 b), .int .u64 (L 3 b)]] w fun e w' => e = .returned (.agg #[.int .u64 0, .int .u64 0, .int .u64 0, .int .u64 0]) ∧ Below w.heap.size w w') := fun w => f_mul0 hn ha hb w
  have C7 : Hid (∀ w : World, Calls Tryd.prog 13 #[.int .i64 k, .agg #[.int .u64 (L 0 a), .int .u64 (L 1 a), .int .u64 (L 2 a), .int .u64 (L 3 a)], .agg #[.int .u64 (L 0 b), .int .u64 (L 1 b), .int .u64 (L 2 b), .int .u64 (L 3 b)]] w fun e w' => e = .returned (.agg #[.int .u64 0, .int .u64 0, .int .u64 0, .int .u64 0]) ∧ Below w.heap.size w w') := fun w => f_pow0 hn ha hb w
  have C8 : Hid (∀ w : World, Tab w → Calls Tryd.prog 14 #[.int .i64 k, .agg #[.int .u64 (L 0 a), .int .u64 (L 1 a), .int .u64 (L 2 a), .int .u64 (L 3 a)]] w fun e w' => e = .returned (.agg #[.int .u64 0, .int .u64 0, .int .u64 0, .int .u64 0]) ∧ Below w.heap.size w w') := fun w hT => f_inv0 hn ha hT
  have C9 : Hid (∀ w : World, Calls Tryd.prog 15 #[.int .i64 k, .agg #[.int .u64 1, .int .u64 0, .int .u64 0, .int .u64 0, .int .u64 0, .int .u64 0, .int .u64 0, .int .u64 0]] w fun e w' => e = .returned (.agg #[.int .u64 0, .int .u64 0, .int .u64 0, .int .u64 0]) ∧ Below w.heap.size w w') := fun w => f_reduce0 hn 1 0 0 0 0 0 0 0 w
  clear ha hb hn
  generalize md k = m at C0 C1
  go_enter Tryd.func3, Tryd.ntmps3
  go_wp2_with fail
  have A1 := (Arr.new w w.heap.size rfl 24 (L 0 a) (L 1 a) (L 2 a) (L 3 a)).alloc (.cells #[.int .u64 (L 0 b), .int .u64 (L 1 b), .int .u64 (L 2 b), .int .u64 (L 3 b)] 24)
  have B1 := Arr.new (w.alloc (.cells #[.int .u64 (L 0 a), .int .u64 (L 1 a), .int .u64 (L 2 a), .int .u64 (L 3 a)] 24)) (w.heap.size + 1) (by simp) 24 (L 0 b) (L 1 b) (L 2 b) (L 3 b)
  have hw1 : Below w.heap.size w ((w.alloc (.cells #[.int .u64 (L 0 a), .int .u64 (L 1 a), .int .u64 (L 2 a), .int .u64 (L 3 a)] 24)).alloc (.cells #[.int .u64 (L 0 b), .int .u64 (L 1 b), .int .u64 (L 2 b), .int .u64 (L 3 b)] 24)) := K.alloc (K.alloc (Below.refl _ w) _) _
  have hT1 := hT.keep hw1
  clear hT
  generalize (w.alloc (.cells #[.int .u64 (L 0 a), .int .u64 (L 1 a), .int .u64 (L 2 a), .int .u64 (L 3 a)] 24)).alloc (.cells #[.int .u64 (L 0 b), .int .u64 (L 1 b), .int .u64 (L 2 b), .int .u64 (L 3 b)] 24) = W0 at *
  have hTW : Hid (∀ w', Below W0.heap.size W0 w' → Tab w') := fun w' h => hT1.keep h
  have ⟨ka, ka0, ka1, ka2, ka3⟩ := A1
  have ⟨kb, kb0, kb1, kb2, kb3⟩ := B1
  have hS : Hid (∀ w', Below W0.heap.size W0 w' → (Below W0.heap.size W0 w' ∧ w'.cell? ⟨w.heap.size, 0, none⟩ = some (.int .u64 (L 0 a)) ∧ w'.cell? ⟨w.heap.size, 1, none⟩ = some (.int .u64 (L 1 a)) ∧ w'.cell? ⟨w.heap.size, 2, none⟩ = some (.int .u64 (L 2 a)) ∧ w'.cell? ⟨w.heap.size, 3, none⟩ = some (.int .u64 (L 3 a)) ∧ w'.cell? ⟨w.heap.size + 1, 0, none⟩ = some (.int .u64 (L 0 b)) ∧ w'.cell? ⟨w.heap.size + 1, 1, none⟩ = some (.int .u64 (L 1 b)) ∧ w'.cell? ⟨w.heap.size + 1, 2, none⟩ = some (.int .u64 (L 2 b)) ∧ w'.cell? ⟨w.heap.size + 1, 3, none⟩ = some (.int .u64 (L 3 b)))) := fun w' hB => ⟨hB, later hB ka0, later hB ka1, later hB ka2, later hB ka3, later hB kb0, later hB kb1, later hB kb2, later hB kb3⟩
  clear ka ka0 ka1 ka2 ka3 kb kb0 kb1 kb2 kb3 hT1
  go_cut [24] (fun s24 wc => s24 = .bool false ∧ Below W0.heap.size W0 wc)
  case first =>
    go_region_held3 (fun w' => Below W0.heap.size W0 w' ∧ w'.cell? ⟨w.heap.size, 0, none⟩ = some (.int .u64 (L 0 a)) ∧ w'.cell? ⟨w.heap.size, 1, none⟩ = some (.int .u64 (L 1 a)) ∧ w'.cell? ⟨w.heap.size, 2, none⟩ = some (.int .u64 (L 2 a)) ∧ w'.cell? ⟨w.heap.size, 3, none⟩ = some (.int .u64 (L 3 a)) ∧ w'.cell? ⟨w.heap.size + 1, 0, none⟩ = some (.int .u64 (L 0 b)) ∧ w'.cell? ⟨w.heap.size + 1, 1, none⟩ = some (.int .u64 (L 1 b)) ∧ w'.cell? ⟨w.heap.size + 1, 2, none⟩ = some (.int .u64 (L 2 b)) ∧ w'.cell? ⟨w.heap.size + 1, 3, none⟩ = some (.int .u64 (L 3 b)))
      ((refine hS.out _ ?_; first | (with_reducible exact K.drew (Below.refl _ _)) | (with_reducible exact K.drew (K.alloc (Below.refl _ _) _)) | (with_reducible exact Below.refl _ _) | (with_reducible exact K.call (by go_split_ands; assumption) hk) | (with_reducible exact K.alloc (by go_split_ands; assumption) _) | (with_reducible exact K.again (by go_split_ands; assumption) (by omega) _) | (with_reducible exact K.set (by go_split_ands; assumption) (by first | omega | (simp; done) | (simp; omega)) _) | (with_reducible exact K.set (K.set (K.set (K.set (by go_split_ands; assumption) (by first | omega | (simp; done) | (simp; omega)) _) (by first | omega | (simp; done) | (simp; omega)) _) (by first | omega | (simp; done) | (simp; omega)) _) (by first | omega | (simp; done) | (simp; omega)) _)))
      (first
        | (go_at_call 5; with_reducible refine Calls.mono (awake_any (hTW.out _ (by go_split_ands; assumption))) ?_; rintro e w' ⟨rfl, hk⟩; have hz := hk.size; (try simp at hz); obtain ⟨hc, hf⟩ := bcell hk; have hl := lt_keep hk)
        | (go_at_call 6; with_reducible refine Calls.mono (C0.out _ (hTW.out _ (by go_split_ands; assumption))) ?_; rintro e w' ⟨rfl, hk⟩; have hz := hk.size; (try simp at hz); obtain ⟨hc, hf⟩ := bcell hk; have hl := lt_keep hk)
        | (go_at_call 7; with_reducible refine Calls.mono (C1.out _) ?_; rintro e w' ⟨rfl, hk⟩; have hz := hk.size; (try simp at hz); obtain ⟨hc, hf⟩ := bcell hk; have hl := lt_keep hk)
        | (go_at_call 8; with_reducible refine Calls.mono (C2.out _ (hTW.out _ (by go_split_ands; assumption))) ?_; rintro e w' ⟨rfl, hk⟩; have hz := hk.size; (try simp at hz); obtain ⟨hc, hf⟩ := bcell hk; have hl := lt_keep hk)
        | (go_at_call 9; with_reducible refine Calls.mono (C3.out _) ?_; rintro e w' ⟨rfl, hk⟩; have hz := hk.size; (try simp at hz); obtain ⟨hc, hf⟩ := bcell hk; have hl := lt_keep hk))
    all_goals
      have hH := ‹Below _ _ _ ∧ _›
      (try go_wp2_with fail)
      go_meet
      exact ⟨rfl, hH.1⟩
  case rest =>
  obtain ⟨rfl, hb⟩ := hcut
  have PA := A1.keep hb
  have PB := B1.keep hb
  have hB : Below w.heap.size w wc := K.call hw1 hb
  have hTC : Hid (∀ w', Below wc.heap.size wc w' → Tab w') := fun w' h => hTW.out w' (K.call hb h)
  have hC : Below wc.heap.size wc wc := Below.refl _ _
  clear hS hb A1 B1 hw1 hTW C0 C1 C2 C3
  have ⟨ka, ka0, ka1, ka2, ka3⟩ := PA
  have ⟨kb, kb0, kb1, kb2, kb3⟩ := PB
  go_wp2_with fail
  with_reducible refine Calls.mono (C4.out _) ?_
  rintro e v1 ⟨rfl, hk⟩
  clear ka ka0 ka1 ka2 ka3 kb kb0 kb1 kb2 kb3
  have PA := PA.keep hk
  have PB := PB.keep hk
  have hB := K.call hB hk
  have hC := K.call hC hk
  clear hk
  have ⟨ka, ka0, ka1, ka2, ka3⟩ := PA
  have ⟨kb, kb0, kb1, kb2, kb3⟩ := PB
  go_wp2_with fail
  with_reducible refine Calls.mono (C5.out _) ?_
  rintro e v2 ⟨rfl, hk⟩
  clear ka ka0 ka1 ka2 ka3 kb kb0 kb1 kb2 kb3
  have PA := PA.keep hk
  have PB := PB.keep hk
  have hB := K.call hB hk
  have hC := K.call hC hk
  clear hk
  have ⟨ka, ka0, ka1, ka2, ka3⟩ := PA
  have ⟨kb, kb0, kb1, kb2, kb3⟩ := PB
  go_wp2_with fail
  with_reducible refine Calls.mono (C6.out _) ?_
  rintro e v3 ⟨rfl, hk⟩
  clear ka ka0 ka1 ka2 ka3 kb kb0 kb1 kb2 kb3
  have PA := PA.keep hk
  have PB := PB.keep hk
  have hB := K.call hB hk
  have hC := K.call hC hk
  clear hk
  have ⟨ka, ka0, ka1, ka2, ka3⟩ := PA
  have ⟨kb, kb0, kb1, kb2, kb3⟩ := PB
  go_wp2_with fail
  with_reducible refine Calls.mono (C7.out _) ?_
  rintro e v4 ⟨rfl, hk⟩
  clear ka ka0 ka1 ka2 ka3 kb kb0 kb1 kb2 kb3
  have PA := PA.keep hk
  have PB := PB.keep hk
  have hB := K.call hB hk
  have hC := K.call hC hk
  clear hk
  have ⟨ka, ka0, ka1, ka2, ka3⟩ := PA
  have ⟨kb, kb0, kb1, kb2, kb3⟩ := PB
  go_wp2_with fail
  with_reducible refine Calls.mono (C8.out _ (hTC.out _ hC)) ?_
  rintro e v5 ⟨rfl, hk⟩
  clear ka ka0 ka1 ka2 ka3 kb kb0 kb1 kb2 kb3
  have PA := PA.keep hk
  have PB := PB.keep hk
  have hB := K.call hB hk
  have hC := K.call hC hk
  clear hk
  have ⟨ka, ka0, ka1, ka2, ka3⟩ := PA
  have ⟨kb, kb0, kb1, kb2, kb3⟩ := PB
  go_wp2_with fail
  with_reducible refine Calls.mono (C9.out _) ?_
  rintro e v6 ⟨rfl, hk⟩
  clear ka ka0 ka1 ka2 ka3 kb kb0 kb1 kb2 kb3
  have PA := PA.keep hk
  have PB := PB.keep hk
  have hB := K.call hB hk
  clear hk
  have ⟨ka, ka0, ka1, ka2, ka3⟩ := PA
  have ⟨kb, kb0, kb1, kb2, kb3⟩ := PB
  go_wp2_with fail
  go_ret
  exact ⟨rfl, hB⟩

set_option maxRecDepth 100000 in
set_option maxHeartbeats 16000000 in
theorem reckons_high {k a b : Int} (h0 : ¬ k < 0) (h1 : 3 < k) (ha : Num a) (hb : Num b) {w : World} (hT : Tab w) :
    Calls Tryd.prog 3 #[.int .i64 k, .agg #[.int .u64 (L 0 a), .int .u64 (L 1 a), .int .u64 (L 2 a), .int .u64 (L 3 a)], .agg #[.int .u64 (L 0 b), .int .u64 (L 1 b), .int .u64 (L 2 b), .int .u64 (L 3 b)]] w fun e w' => e = .returned (.bool true) ∧ Below w.heap.size w w' := by
  have hn : k < 0 ∨ 3 < k := Or.inr h1
  have C0 : Hid (∀ w : World, Tab w → Calls Tryd.prog 6 #[.int .i64 k] w fun e w' => e = .returned (.agg #[.int .u64 (L 0 (md k)), .int .u64 (L 1 (md k)), .int .u64 (L 2 (md k)), .int .u64 (L 3 (md k))]) ∧ Below w.heap.size w w') := fun w hT => f_mod k hT
  have C1 : Hid (∀ w : World, Calls Tryd.prog 7 #[.int .i64 k] w fun e w' => e = .returned (.agg #[.int .u64 (L 0 (md k)), .int .u64 (L 1 (md k)), .int .u64 (L 2 (md k)), .int .u64 (L 3 (md k))]) ∧ Below w.heap.size w w') := fun w => ref_mod_any k w
  have C2 : Hid (∀ w : World, Tab w → Calls Tryd.prog 8 #[.int .i64 k, .agg #[.int .u64 (L 0 a), .int .u64 (L 1 a), .int .u64 (L 2 a), .int .u64 (L 3 a)]] w fun e w' => e = .returned (.agg #[.int .u64 0, .int .u64 0, .int .u64 0, .int .u64 0]) ∧ Below w.heap.size w w') := fun w hT => f_fold0 hn ha w
  have C3 : Hid (∀ w : World, Calls Tryd.prog 9 #[.int .i64 k, .agg #[.int .u64 (L 0 a), .int .u64 (L 1 a), .int .u64 (L 2 a), .int .u64 (L 3 a)]] w fun e w' => e = .returned (.agg #[.int .u64 0, .int .u64 0, .int .u64 0, .int .u64 0]) ∧ Below w.heap.size w w') := fun w => ref_fold_none hn w
  have C4 : Hid (∀ w : World, Calls Tryd.prog 10 #[.int .i64 k, .agg #[.int .u64 (L 0 a), .int .u64 (L 1 a), .int .u64 (L 2 a), .int .u64 (L 3 a)], .agg #[.int .u64 (L 0 b), .int .u64 (L 1 b), .int .u64 (L 2 b), .int .u64 (L 3 b)]] w fun e w' => e = .returned (.agg #[.int .u64 0, .int .u64 0, .int .u64 0, .int .u64 0]) ∧ Below w.heap.size w w') := fun w => f_add0 hn ha hb w
  have C5 : Hid (∀ w : World, Calls Tryd.prog 11 #[.int .i64 k, .agg #[.int .u64 (L 0 a), .int .u64 (L 1 a), .int .u64 (L 2 a), .int .u64 (L 3 a)], .agg #[.int .u64 (L 0 b), .int .u64 (L 1 b), .int .u64 (L 2 b), .int .u64 (L 3 b)]] w fun e w' => e = .returned (.agg #[.int .u64 0, .int .u64 0, .int .u64 0, .int .u64 0]) ∧ Below w.heap.size w w') := fun w => f_sub0 hn ha hb w
  have C6 : Hid (∀ w : World, Calls Tryd.prog 12 #[.int .i64 k, .agg #[.int .u64 (L 0 a), .int .u64 (L 1 a), .int .u64 (L 2 a), .int .u64 (L 3 a)], .agg #[.int .u64 (L 0 b), .int .u64 (L 1 b), .int .u64 (L 2 b), .int .u64 (L 3 b)]] w fun e w' => e = .returned (.agg #[.int .u64 0, .int .u64 0, .int .u64 0, .int .u64 0]) ∧ Below w.heap.size w w') := fun w => f_mul0 hn ha hb w
  have C7 : Hid (∀ w : World, Calls Tryd.prog 13 #[.int .i64 k, .agg #[.int .u64 (L 0 a), .int .u64 (L 1 a), .int .u64 (L 2 a), .int .u64 (L 3 a)], .agg #[.int .u64 (L 0 b), .int .u64 (L 1 b), .int .u64 (L 2 b), .int .u64 (L 3 b)]] w fun e w' => e = .returned (.agg #[.int .u64 0, .int .u64 0, .int .u64 0, .int .u64 0]) ∧ Below w.heap.size w w') := fun w => f_pow0 hn ha hb w
  have C8 : Hid (∀ w : World, Tab w → Calls Tryd.prog 14 #[.int .i64 k, .agg #[.int .u64 (L 0 a), .int .u64 (L 1 a), .int .u64 (L 2 a), .int .u64 (L 3 a)]] w fun e w' => e = .returned (.agg #[.int .u64 0, .int .u64 0, .int .u64 0, .int .u64 0]) ∧ Below w.heap.size w w') := fun w hT => f_inv0 hn ha hT
  have C9 : Hid (∀ w : World, Calls Tryd.prog 15 #[.int .i64 k, .agg #[.int .u64 1, .int .u64 0, .int .u64 0, .int .u64 0, .int .u64 0, .int .u64 0, .int .u64 0, .int .u64 0]] w fun e w' => e = .returned (.agg #[.int .u64 0, .int .u64 0, .int .u64 0, .int .u64 0]) ∧ Below w.heap.size w w') := fun w => f_reduce0 hn 1 0 0 0 0 0 0 0 w
  clear ha hb hn
  generalize md k = m at C0 C1
  go_enter Tryd.func3, Tryd.ntmps3
  go_wp2_with fail
  have A1 := (Arr.new w w.heap.size rfl 24 (L 0 a) (L 1 a) (L 2 a) (L 3 a)).alloc (.cells #[.int .u64 (L 0 b), .int .u64 (L 1 b), .int .u64 (L 2 b), .int .u64 (L 3 b)] 24)
  have B1 := Arr.new (w.alloc (.cells #[.int .u64 (L 0 a), .int .u64 (L 1 a), .int .u64 (L 2 a), .int .u64 (L 3 a)] 24)) (w.heap.size + 1) (by simp) 24 (L 0 b) (L 1 b) (L 2 b) (L 3 b)
  have hw1 : Below w.heap.size w ((w.alloc (.cells #[.int .u64 (L 0 a), .int .u64 (L 1 a), .int .u64 (L 2 a), .int .u64 (L 3 a)] 24)).alloc (.cells #[.int .u64 (L 0 b), .int .u64 (L 1 b), .int .u64 (L 2 b), .int .u64 (L 3 b)] 24)) := K.alloc (K.alloc (Below.refl _ w) _) _
  have hT1 := hT.keep hw1
  clear hT
  generalize (w.alloc (.cells #[.int .u64 (L 0 a), .int .u64 (L 1 a), .int .u64 (L 2 a), .int .u64 (L 3 a)] 24)).alloc (.cells #[.int .u64 (L 0 b), .int .u64 (L 1 b), .int .u64 (L 2 b), .int .u64 (L 3 b)] 24) = W0 at *
  have hTW : Hid (∀ w', Below W0.heap.size W0 w' → Tab w') := fun w' h => hT1.keep h
  have ⟨ka, ka0, ka1, ka2, ka3⟩ := A1
  have ⟨kb, kb0, kb1, kb2, kb3⟩ := B1
  have hS : Hid (∀ w', Below W0.heap.size W0 w' → (Below W0.heap.size W0 w' ∧ w'.cell? ⟨w.heap.size, 0, none⟩ = some (.int .u64 (L 0 a)) ∧ w'.cell? ⟨w.heap.size, 1, none⟩ = some (.int .u64 (L 1 a)) ∧ w'.cell? ⟨w.heap.size, 2, none⟩ = some (.int .u64 (L 2 a)) ∧ w'.cell? ⟨w.heap.size, 3, none⟩ = some (.int .u64 (L 3 a)) ∧ w'.cell? ⟨w.heap.size + 1, 0, none⟩ = some (.int .u64 (L 0 b)) ∧ w'.cell? ⟨w.heap.size + 1, 1, none⟩ = some (.int .u64 (L 1 b)) ∧ w'.cell? ⟨w.heap.size + 1, 2, none⟩ = some (.int .u64 (L 2 b)) ∧ w'.cell? ⟨w.heap.size + 1, 3, none⟩ = some (.int .u64 (L 3 b)))) := fun w' hB => ⟨hB, later hB ka0, later hB ka1, later hB ka2, later hB ka3, later hB kb0, later hB kb1, later hB kb2, later hB kb3⟩
  clear ka ka0 ka1 ka2 ka3 kb kb0 kb1 kb2 kb3 hT1
  go_cut [24] (fun s24 wc => s24 = .bool false ∧ Below W0.heap.size W0 wc)
  case first =>
    go_region_held3 (fun w' => Below W0.heap.size W0 w' ∧ w'.cell? ⟨w.heap.size, 0, none⟩ = some (.int .u64 (L 0 a)) ∧ w'.cell? ⟨w.heap.size, 1, none⟩ = some (.int .u64 (L 1 a)) ∧ w'.cell? ⟨w.heap.size, 2, none⟩ = some (.int .u64 (L 2 a)) ∧ w'.cell? ⟨w.heap.size, 3, none⟩ = some (.int .u64 (L 3 a)) ∧ w'.cell? ⟨w.heap.size + 1, 0, none⟩ = some (.int .u64 (L 0 b)) ∧ w'.cell? ⟨w.heap.size + 1, 1, none⟩ = some (.int .u64 (L 1 b)) ∧ w'.cell? ⟨w.heap.size + 1, 2, none⟩ = some (.int .u64 (L 2 b)) ∧ w'.cell? ⟨w.heap.size + 1, 3, none⟩ = some (.int .u64 (L 3 b)))
      ((refine hS.out _ ?_; first | (with_reducible exact K.drew (Below.refl _ _)) | (with_reducible exact K.drew (K.alloc (Below.refl _ _) _)) | (with_reducible exact Below.refl _ _) | (with_reducible exact K.call (by go_split_ands; assumption) hk) | (with_reducible exact K.alloc (by go_split_ands; assumption) _) | (with_reducible exact K.again (by go_split_ands; assumption) (by omega) _) | (with_reducible exact K.set (by go_split_ands; assumption) (by first | omega | (simp; done) | (simp; omega)) _) | (with_reducible exact K.set (K.set (K.set (K.set (by go_split_ands; assumption) (by first | omega | (simp; done) | (simp; omega)) _) (by first | omega | (simp; done) | (simp; omega)) _) (by first | omega | (simp; done) | (simp; omega)) _) (by first | omega | (simp; done) | (simp; omega)) _)))
      (first
        | (go_at_call 5; with_reducible refine Calls.mono (awake_any (hTW.out _ (by go_split_ands; assumption))) ?_; rintro e w' ⟨rfl, hk⟩; have hz := hk.size; (try simp at hz); obtain ⟨hc, hf⟩ := bcell hk; have hl := lt_keep hk)
        | (go_at_call 6; with_reducible refine Calls.mono (C0.out _ (hTW.out _ (by go_split_ands; assumption))) ?_; rintro e w' ⟨rfl, hk⟩; have hz := hk.size; (try simp at hz); obtain ⟨hc, hf⟩ := bcell hk; have hl := lt_keep hk)
        | (go_at_call 7; with_reducible refine Calls.mono (C1.out _) ?_; rintro e w' ⟨rfl, hk⟩; have hz := hk.size; (try simp at hz); obtain ⟨hc, hf⟩ := bcell hk; have hl := lt_keep hk)
        | (go_at_call 8; with_reducible refine Calls.mono (C2.out _ (hTW.out _ (by go_split_ands; assumption))) ?_; rintro e w' ⟨rfl, hk⟩; have hz := hk.size; (try simp at hz); obtain ⟨hc, hf⟩ := bcell hk; have hl := lt_keep hk)
        | (go_at_call 9; with_reducible refine Calls.mono (C3.out _) ?_; rintro e w' ⟨rfl, hk⟩; have hz := hk.size; (try simp at hz); obtain ⟨hc, hf⟩ := bcell hk; have hl := lt_keep hk))
    all_goals
      have hH := ‹Below _ _ _ ∧ _›
      (try go_wp2_with fail)
      go_meet
      exact ⟨rfl, hH.1⟩
  case rest =>
  obtain ⟨rfl, hb⟩ := hcut
  have PA := A1.keep hb
  have PB := B1.keep hb
  have hB : Below w.heap.size w wc := K.call hw1 hb
  have hTC : Hid (∀ w', Below wc.heap.size wc w' → Tab w') := fun w' h => hTW.out w' (K.call hb h)
  have hC : Below wc.heap.size wc wc := Below.refl _ _
  clear hS hb A1 B1 hw1 hTW C0 C1 C2 C3
  have ⟨ka, ka0, ka1, ka2, ka3⟩ := PA
  have ⟨kb, kb0, kb1, kb2, kb3⟩ := PB
  go_wp2_with fail
  with_reducible refine Calls.mono (C4.out _) ?_
  rintro e v1 ⟨rfl, hk⟩
  clear ka ka0 ka1 ka2 ka3 kb kb0 kb1 kb2 kb3
  have PA := PA.keep hk
  have PB := PB.keep hk
  have hB := K.call hB hk
  have hC := K.call hC hk
  clear hk
  have ⟨ka, ka0, ka1, ka2, ka3⟩ := PA
  have ⟨kb, kb0, kb1, kb2, kb3⟩ := PB
  go_wp2_with fail
  with_reducible refine Calls.mono (C5.out _) ?_
  rintro e v2 ⟨rfl, hk⟩
  clear ka ka0 ka1 ka2 ka3 kb kb0 kb1 kb2 kb3
  have PA := PA.keep hk
  have PB := PB.keep hk
  have hB := K.call hB hk
  have hC := K.call hC hk
  clear hk
  have ⟨ka, ka0, ka1, ka2, ka3⟩ := PA
  have ⟨kb, kb0, kb1, kb2, kb3⟩ := PB
  go_wp2_with fail
  with_reducible refine Calls.mono (C6.out _) ?_
  rintro e v3 ⟨rfl, hk⟩
  clear ka ka0 ka1 ka2 ka3 kb kb0 kb1 kb2 kb3
  have PA := PA.keep hk
  have PB := PB.keep hk
  have hB := K.call hB hk
  have hC := K.call hC hk
  clear hk
  have ⟨ka, ka0, ka1, ka2, ka3⟩ := PA
  have ⟨kb, kb0, kb1, kb2, kb3⟩ := PB
  go_wp2_with fail
  with_reducible refine Calls.mono (C7.out _) ?_
  rintro e v4 ⟨rfl, hk⟩
  clear ka ka0 ka1 ka2 ka3 kb kb0 kb1 kb2 kb3
  have PA := PA.keep hk
  have PB := PB.keep hk
  have hB := K.call hB hk
  have hC := K.call hC hk
  clear hk
  have ⟨ka, ka0, ka1, ka2, ka3⟩ := PA
  have ⟨kb, kb0, kb1, kb2, kb3⟩ := PB
  go_wp2_with fail
  with_reducible refine Calls.mono (C8.out _ (hTC.out _ hC)) ?_
  rintro e v5 ⟨rfl, hk⟩
  clear ka ka0 ka1 ka2 ka3 kb kb0 kb1 kb2 kb3
  have PA := PA.keep hk
  have PB := PB.keep hk
  have hB := K.call hB hk
  have hC := K.call hC hk
  clear hk
  have ⟨ka, ka0, ka1, ka2, ka3⟩ := PA
  have ⟨kb, kb0, kb1, kb2, kb3⟩ := PB
  go_wp2_with fail
  with_reducible refine Calls.mono (C9.out _) ?_
  rintro e v6 ⟨rfl, hk⟩
  clear ka ka0 ka1 ka2 ka3 kb kb0 kb1 kb2 kb3
  have PA := PA.keep hk
  have PB := PB.keep hk
  have hB := K.call hB hk
  clear hk
  have ⟨ka, ka0, ka1, ka2, ka3⟩ := PA
  have ⟨kb, kb0, kb1, kb2, kb3⟩ := PB
  go_wp2_with fail
  go_ret
  exact ⟨rfl, hB⟩

theorem reckons_walk {k a b : Int} (ha : Num a) (hb : Num b) {w : World} (hT : Tab w) :
    Calls Tryd.prog 3 #[.int .i64 k, .agg #[.int .u64 (L 0 a), .int .u64 (L 1 a), .int .u64 (L 2 a), .int .u64 (L 3 a)], .agg #[.int .u64 (L 0 b), .int .u64 (L 1 b), .int .u64 (L 2 b), .int .u64 (L 3 b)]] w fun e w' => e = .returned (.bool true) ∧ Below w.heap.size w w' := by
  by_cases h0 : k < 0
  · exact reckons_low h0 ha hb hT
  · by_cases h1 : 3 < k
    · exact reckons_high h0 h1 ha hb hT
    · exact reckons_in ⟨by omega, by omega⟩ ha hb hT
end Go.Proofs.YtffkeabpdmpjbaaDoor
