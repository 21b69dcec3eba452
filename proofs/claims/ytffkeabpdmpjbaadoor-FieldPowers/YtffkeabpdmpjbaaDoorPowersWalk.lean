/- FieldPowers, walked: all powers are made, and all inverses. -/
import Derived.Test.YtffkeabpdmpjbaaDoorRefPowF
import Derived.Test.YtffkeabpdmpjbaaDoorAwake
import Derived.Deep.DeepCutAuto
namespace Go.Proofs.YtffkeabpdmpjbaaDoor
open Go.RowKit
attribute [local go_sem ↓] Go.wp_at_zero Go.wp_at_succ
attribute [local go_sem] eq4

set_option maxRecDepth 100000 in
set_option maxHeartbeats 8000000 in
theorem powers_walk {k a ex : Int} (k0 : 0 ≤ k) (k1 : k ≤ 255) (ha : Num a) (he : Num ex) {w : World} (hT : Tab w) :
    Calls Tryd.prog 4 #[.int .u8 k, .agg #[.int .u64 (L 0 a), .int .u64 (L 1 a), .int .u64 (L 2 a), .int .u64 (L 3 a)], .agg #[.int .u64 (L 0 ex), .int .u64 (L 1 ex), .int .u64 (L 2 ex), .int .u64 (L 3 ex)]] w fun e w' => e = .returned (.bool true) ∧ Below w.heap.size w w' := by
  obtain ⟨n, hn, hnk⟩ : ∃ n, (0 ≤ n ∧ n ≤ 3) ∧ k % 4 = n := ⟨_, k_four k, rfl⟩
  have C1 : Hid (∀ w : World, Tab w → Calls Tryd.prog 13 #[.int .i64 n, .agg #[.int .u64 (L 0 a), .int .u64 (L 1 a), .int .u64 (L 2 a), .int .u64 (L 3 a)], .agg #[.int .u64 (L 0 ex), .int .u64 (L 1 ex), .int .u64 (L 2 ex), .int .u64 (L 3 ex)]] w fun e w' => e = .returned (.agg #[.int .u64 (L 0 (pw a ex % md n)), .int .u64 (L 1 (pw a ex % md n)), .int .u64 (L 2 (pw a ex % md n)), .int .u64 (L 3 (pw a ex % md n))]) ∧ Below w.heap.size w w') := fun w hT => f_pow hn ha he hT
  have C2 : Hid (∀ w : World, Calls Tryd.prog 19 #[.int .i64 n, .agg #[.int .u64 (L 0 a), .int .u64 (L 1 a), .int .u64 (L 2 a), .int .u64 (L 3 a)], .agg #[.int .u64 (L 0 ex), .int .u64 (L 1 ex), .int .u64 (L 2 ex), .int .u64 (L 3 ex)]] w fun e w' => e = .returned (.agg #[.int .u64 (L 0 (pw a ex % md n)), .int .u64 (L 1 (pw a ex % md n)), .int .u64 (L 2 (pw a ex % md n)), .int .u64 (L 3 (pw a ex % md n))]) ∧ Below w.heap.size w w') := fun w => ref_powf_any hn ha he w
  have C3 : Hid (∀ w : World, Tab w → Calls Tryd.prog 14 #[.int .i64 n, .agg #[.int .u64 (L 0 a), .int .u64 (L 1 a), .int .u64 (L 2 a), .int .u64 (L 3 a)]] w fun e w' => e = .returned (.agg #[.int .u64 (L 0 (pw a (md n - 2) % md n)), .int .u64 (L 1 (pw a (md n - 2) % md n)), .int .u64 (L 2 (pw a (md n - 2) % md n)), .int .u64 (L 3 (pw a (md n - 2) % md n))]) ∧ Below w.heap.size w w') := fun w hT => f_inv hn ha hT
  have C4 : Hid (∀ w : World, Calls Tryd.prog 20 #[.int .i64 n, .agg #[.int .u64 (L 0 a), .int .u64 (L 1 a), .int .u64 (L 2 a), .int .u64 (L 3 a)]] w fun e w' => e = .returned (.agg #[.int .u64 (L 0 (pw a (md n - 2) % md n)), .int .u64 (L 1 (pw a (md n - 2) % md n)), .int .u64 (L 2 (pw a (md n - 2) % md n)), .int .u64 (L 3 (pw a (md n - 2) % md n))]) ∧ Below w.heap.size w w') := fun w => ref_invf_any hn ha w
  clear hn ha he
  generalize pw a ex % md n = p at C1 C2
  generalize pw a (md n - 2) % md n = q at C3 C4
  go_enter Tryd.func4, Tryd.ntmps4
  go_wp2_with fail
  have A1 := (Arr.new w w.heap.size rfl 24 (L 0 a) (L 1 a) (L 2 a) (L 3 a)).alloc (.cells #[.int .u64 (L 0 ex), .int .u64 (L 1 ex), .int .u64 (L 2 ex), .int .u64 (L 3 ex)] 24)
  have B1 := Arr.new (w.alloc (.cells #[.int .u64 (L 0 a), .int .u64 (L 1 a), .int .u64 (L 2 a), .int .u64 (L 3 a)] 24)) (w.heap.size + 1) (by simp) 24 (L 0 ex) (L 1 ex) (L 2 ex) (L 3 ex)
  have hw1 : Below w.heap.size w ((w.alloc (.cells #[.int .u64 (L 0 a), .int .u64 (L 1 a), .int .u64 (L 2 a), .int .u64 (L 3 a)] 24)).alloc (.cells #[.int .u64 (L 0 ex), .int .u64 (L 1 ex), .int .u64 (L 2 ex), .int .u64 (L 3 ex)] 24)) := K.alloc (K.alloc (Below.refl _ w) _) _
  have hT1 := hT.keep hw1
  clear hT
  generalize (w.alloc (.cells #[.int .u64 (L 0 a), .int .u64 (L 1 a), .int .u64 (L 2 a), .int .u64 (L 3 a)] 24)).alloc (.cells #[.int .u64 (L 0 ex), .int .u64 (L 1 ex), .int .u64 (L 2 ex), .int .u64 (L 3 ex)] 24) = W0 at *
  have hTW : Hid (∀ w', Below W0.heap.size W0 w' → Tab w') := fun w' h => hT1.keep h
  have ⟨ka, ka0, ka1, ka2, ka3⟩ := A1
  have ⟨kb, kb0, kb1, kb2, kb3⟩ := B1
  have hS : Hid (∀ w', Below W0.heap.size W0 w' → (Below W0.heap.size W0 w' ∧ w'.cell? ⟨w.heap.size, 0, none⟩ = some (.int .u64 (L 0 a)) ∧ w'.cell? ⟨w.heap.size, 1, none⟩ = some (.int .u64 (L 1 a)) ∧ w'.cell? ⟨w.heap.size, 2, none⟩ = some (.int .u64 (L 2 a)) ∧ w'.cell? ⟨w.heap.size, 3, none⟩ = some (.int .u64 (L 3 a)) ∧ w'.cell? ⟨w.heap.size + 1, 0, none⟩ = some (.int .u64 (L 0 ex)) ∧ w'.cell? ⟨w.heap.size + 1, 1, none⟩ = some (.int .u64 (L 1 ex)) ∧ w'.cell? ⟨w.heap.size + 1, 2, none⟩ = some (.int .u64 (L 2 ex)) ∧ w'.cell? ⟨w.heap.size + 1, 3, none⟩ = some (.int .u64 (L 3 ex)))) := fun w' hB => ⟨hB, later hB ka0, later hB ka1, later hB ka2, later hB ka3, later hB kb0, later hB kb1, later hB kb2, later hB kb3⟩
  clear ka ka0 ka1 ka2 ka3 kb kb0 kb1 kb2 kb3 A1 B1 hT1
  go_region_held3 (fun w' => Below W0.heap.size W0 w' ∧ w'.cell? ⟨w.heap.size, 0, none⟩ = some (.int .u64 (L 0 a)) ∧ w'.cell? ⟨w.heap.size, 1, none⟩ = some (.int .u64 (L 1 a)) ∧ w'.cell? ⟨w.heap.size, 2, none⟩ = some (.int .u64 (L 2 a)) ∧ w'.cell? ⟨w.heap.size, 3, none⟩ = some (.int .u64 (L 3 a)) ∧ w'.cell? ⟨w.heap.size + 1, 0, none⟩ = some (.int .u64 (L 0 ex)) ∧ w'.cell? ⟨w.heap.size + 1, 1, none⟩ = some (.int .u64 (L 1 ex)) ∧ w'.cell? ⟨w.heap.size + 1, 2, none⟩ = some (.int .u64 (L 2 ex)) ∧ w'.cell? ⟨w.heap.size + 1, 3, none⟩ = some (.int .u64 (L 3 ex)))
    ((refine hS.out _ ?_; first | (with_reducible exact K.drew (Below.refl _ _)) | (with_reducible exact K.drew (K.alloc (Below.refl _ _) _)) | (with_reducible exact Below.refl _ _) | (with_reducible exact K.call (by go_split_ands; assumption) hk) | (with_reducible exact K.alloc (by go_split_ands; assumption) _) | (with_reducible exact K.again (by go_split_ands; assumption) (by omega) _) | (with_reducible exact K.set (by go_split_ands; assumption) (by first | omega | (simp; done) | (simp; omega)) _) | (with_reducible exact K.set (K.set (K.set (K.set (by go_split_ands; assumption) (by first | omega | (simp; done) | (simp; omega)) _) (by first | omega | (simp; done) | (simp; omega)) _) (by first | omega | (simp; done) | (simp; omega)) _) (by first | omega | (simp; done) | (simp; omega)) _)))
    (first
      | (go_at_call 5; with_reducible refine Calls.mono (awake_any (hTW.out _ (by go_split_ands; assumption))) ?_; rintro e w' ⟨rfl, hk⟩; have hz := hk.size; (try simp at hz); obtain ⟨hc, hf⟩ := bcell hk; have hl := lt_keep hk)
      | (go_at_call 13; with_reducible refine Calls.mono (C1.out _ (hTW.out _ (by go_split_ands; assumption))) ?_; rintro e w' ⟨rfl, hk⟩; have hz := hk.size; (try simp at hz); obtain ⟨hc, hf⟩ := bcell hk; have hl := lt_keep hk)
      | (go_at_call 19; with_reducible refine Calls.mono (C2.out _) ?_; rintro e w' ⟨rfl, hk⟩; have hz := hk.size; (try simp at hz); obtain ⟨hc, hf⟩ := bcell hk; have hl := lt_keep hk)
      | (go_at_call 14; with_reducible refine Calls.mono (C3.out _ (hTW.out _ (by go_split_ands; assumption))) ?_; rintro e w' ⟨rfl, hk⟩; have hz := hk.size; (try simp at hz); obtain ⟨hc, hf⟩ := bcell hk; have hl := lt_keep hk)
      | (go_at_call 20; with_reducible refine Calls.mono (C4.out _) ?_; rintro e w' ⟨rfl, hk⟩; have hz := hk.size; (try simp at hz); obtain ⟨hc, hf⟩ := bcell hk; have hl := lt_keep hk))
  have hH := ‹Below _ _ _ ∧ _›
  go_wp2_with fail
  go_ret
  exact ⟨rfl, K.call hw1 hH.1⟩
end Go.Proofs.YtffkeabpdmpjbaaDoor
