/- CodecHalves. -/
import Derived.Test.YtnfgkflhanjjcaaPutOwn
import Derived.Test.YtnfgkflhanjjcaaCAr8
import Derived.Test.YtnfgkflhanjjcaaCBig
import Derived.Test.YtnfgkflhanjjcaaCWide
import Derived.Deep.AppendLies
import Derived.Deep.DeepCutAuto
import Derived.Deep.RegionHeld3
namespace Go.Proofs.Ytnfgkflhanjjcaa
open Go.RowKit
attribute [local go_sem ↓] Go.wp_at_zero Go.wp_at_succ
attribute [local go_sem] eq8_same

theorem Rd.first {w : World} {b o n : Nat} {f : Nat → Int} (h : Rd w b o n f) (m : Nat) (hm : m ≤ n) : Rd w b o m f := ⟨fun i hi => h.c i (by omega)⟩
theorem wide_two {n cap : Nat} (a b : Int) {w : World} (hD : Rd w n 0 64 (two a b)) :
    Calls Try.prog 12 #[.slice (some ⟨n, 0, none⟩) 64 cap] w fun e w' => e = .returned (.tuple #[.agg #[.int .u64 (L 0 a), .int .u64 (L 1 a), .int .u64 (L 2 a), .int .u64 (L 3 a), .int .u64 (L 0 b), .int .u64 (L 1 b), .int .u64 (L 2 b), .int .u64 (L 3 b)], .bool true]) ∧ Below w.heap.size w w' := by
  have h := wide_any (cap := cap) (two_bd a b) hD
  have a0 : E (two a b) 0 8 = L 0 a := two_low a b 0 (by omega)
  have a1 : E (two a b) 8 8 = L 1 a := two_low a b 1 (by omega)
  have a2 : E (two a b) 16 8 = L 2 a := two_low a b 2 (by omega)
  have a3 : E (two a b) 24 8 = L 3 a := two_low a b 3 (by omega)
  have b0 : E (two a b) 32 8 = L 0 b := two_high a b 0
  have b1 : E (two a b) 40 8 = L 1 b := two_high a b 1
  have b2 : E (two a b) 48 8 = L 2 b := two_high a b 2
  have b3 : E (two a b) 56 8 = L 3 b := two_high a b 3
  rw [a0, a1, a2, a3, b0, b1, b2, b3] at h
  exact h

set_option maxRecDepth 100000 in
set_option maxHeartbeats 8000000 in
theorem halves_walk {a b : Int} (_ : Num a) (_ : Num b) (w : World) :
    Calls Try.prog 5 #[.agg #[.int .u64 (L 0 a), .int .u64 (L 1 a), .int .u64 (L 2 a), .int .u64 (L 3 a)], .agg #[.int .u64 (L 0 b), .int .u64 (L 1 b), .int .u64 (L 2 b), .int .u64 (L 3 b)]] w fun e w' => e = .returned (.bool true) ∧ Below w.heap.size w w' := by
  obtain ⟨i0, hi, hz0, hz1, hz2⟩ := info_parts info8
  go_enter Try.func5, Try.ntmps5
  go_wp2_with fail
  with_reducible refine Calls.mono (awake_any _) ?_
  rintro e W0 ⟨rfl, hb⟩
  have PA := ((Arr.new w w.heap.size rfl 26 (L 0 a) (L 1 a) (L 2 a) (L 3 a)).alloc _).keep hb
  have PB := (Arr.new _ (w.heap.size + 1) (by simp) 26 (L 0 b) (L 1 b) (L 2 b) (L 3 b)).keep hb
  have hB : Below w.heap.size w W0 := K.call (K.alloc (K.alloc (Below.refl _ _) _) _) hb
  clear hb
  go_wp2_with fail
  have ⟨la, a0, a1, a2, a3⟩ := PA
  have ⟨lb, b0, b1, b2, b3⟩ := PB
  have hS : Hid (∀ w', Below W0.heap.size W0 w' → (Below W0.heap.size W0 w' ∧ w'.cell? ⟨w.heap.size, 0, none⟩ = some (.int .u64 (L 0 a)) ∧ w'.cell? ⟨w.heap.size, 1, none⟩ = some (.int .u64 (L 1 a)) ∧ w'.cell? ⟨w.heap.size, 2, none⟩ = some (.int .u64 (L 2 a)) ∧ w'.cell? ⟨w.heap.size, 3, none⟩ = some (.int .u64 (L 3 a)) ∧ w'.cell? ⟨w.heap.size + 1, 0, none⟩ = some (.int .u64 (L 0 b)) ∧ w'.cell? ⟨w.heap.size + 1, 1, none⟩ = some (.int .u64 (L 1 b)) ∧ w'.cell? ⟨w.heap.size + 1, 2, none⟩ = some (.int .u64 (L 2 b)) ∧ w'.cell? ⟨w.heap.size + 1, 3, none⟩ = some (.int .u64 (L 3 b)))) := fun w' hB => ⟨hB, later hB a0, later hB a1, later hB a2, later hB a3, later hB b0, later hB b1, later hB b2, later hB b3⟩
  clear la a0 a1 a2 a3 lb b0 b1 b2 b3
  go_cut [5] (fun s5 wc => ∃ g cap, s5 = .slice (some ⟨g, 0, none⟩) 64 cap ∧ Below W0.heap.size W0 wc ∧ wc.ownsRow W0.heap.size 5 1 (.slice (some ⟨g, 0, none⟩) 64 cap) 64 (bl a ++ bl b))
  case first =>
    go_region_held3 (fun w' => Below W0.heap.size W0 w' ∧ w'.cell? ⟨w.heap.size, 0, none⟩ = some (.int .u64 (L 0 a)) ∧ w'.cell? ⟨w.heap.size, 1, none⟩ = some (.int .u64 (L 1 a)) ∧ w'.cell? ⟨w.heap.size, 2, none⟩ = some (.int .u64 (L 2 a)) ∧ w'.cell? ⟨w.heap.size, 3, none⟩ = some (.int .u64 (L 3 a)) ∧ w'.cell? ⟨w.heap.size + 1, 0, none⟩ = some (.int .u64 (L 0 b)) ∧ w'.cell? ⟨w.heap.size + 1, 1, none⟩ = some (.int .u64 (L 1 b)) ∧ w'.cell? ⟨w.heap.size + 1, 2, none⟩ = some (.int .u64 (L 2 b)) ∧ w'.cell? ⟨w.heap.size + 1, 3, none⟩ = some (.int .u64 (L 3 b)))
      ((refine hS.out _ ?_; first | (with_reducible exact K.drew (Below.refl _ _)) | (with_reducible exact K.drew (K.alloc (Below.refl _ _) _)) | (with_reducible exact Below.refl _ _) | (with_reducible exact K.call (by go_split_ands; assumption) hk) | (with_reducible exact K.alloc (by go_split_ands; assumption) _) | (with_reducible exact K.again (by go_split_ands; assumption) (by omega) _) | (with_reducible exact K.set (by go_split_ands; assumption) (by first | omega | (simp; done) | (simp; omega)) _) | (with_reducible exact K.set (K.set (K.set (K.set (by go_split_ands; assumption) (by first | omega | (simp; done) | (simp; omega)) _) (by first | omega | (simp; done) | (simp; omega)) _) (by first | omega | (simp; done) | (simp; omega)) _) (by first | omega | (simp; done) | (simp; omega)) _) | (with_reducible exact hQ)))
      (first
        | (go_at_call 15; with_reducible refine Calls.mono (putLittle_own a _) ?_; rintro e w' ⟨nA, hnA, rfl, hOA, hRA, hk⟩; have hz := hk.size; (try simp at hz))
        | (go_at_call 15; with_reducible refine Calls.mono (putLittle_own b _) ?_; rintro e w' ⟨nB, hnB, rfl, hOB, hRB, hk⟩; have hOA := own_keep hOA hk; have hz := hk.size; (try simp at hz); have hQ : Below W0.heap.size W0 w' := K.call (by go_split_ands; with_reducible assumption) hk)
        | (refine step_append_lies _ (by rfl) _ _ _ (by rfl) W0.heap.size 5 i0 (.int .u8 0) 1 1 Try.underlying22 hi hz0 hz1 hz2 rfl (by decide) _ 32 (bl a) (by rfl) hOA ⟨nB, 0, none⟩ 32 32 (bl b) (by rfl) (bl_len b) (news_of hRB (fun j hj => bl_at b j hj) (bl_len b)) (bl_one b) (by omega) (by decide) (by decide) hQ.size _ rfl ?_; intro g cap w' hown hgrow hat hlt; have hQ := below_append hQ hOA hgrow))
    all_goals
      have hH := ‹Below _ _ _ ∧ _›
      (try go_wp2_with fail)
      go_meet
      exact ⟨_, _, rfl, hH.1, hown⟩
  case rest =>
  obtain ⟨g, cap, rfl, hb, hO⟩ := hcut
  have PA := PA.keep hb
  have PB := PB.keep hb
  have hB : Below w.heap.size w wc := K.call hB hb
  clear hS hb
  obtain ⟨g', cap', he, hg, hR⟩ := own_rd (f := two a b) hO (fun j hj => two_at a b j hj) (by omega)
  obtain ⟨rfl, rfl⟩ : g = g' ∧ cap = cap' := by simpa using he
  have hcap := own_cap hO
  have hci : (64 : Int) ≤ cap := by omega
  clear he hO
  go_wp2_with (at_builtin; refine wpList_append_lies _ rfl _ _ 22 rfl wc.heap.size 5 i0 (.int .u8 0) 1 1 Try.underlying22 hi hz0 hz1 hz2 rfl (by decide) (.slice none 0 0) 0 [] rfl (World.ownsRow_nil _ _ _ _) ⟨g, 0, none⟩ 64 cap (bl a ++ bl b) rfl (two_len a b) (news_of hR (fun j hj => two_at a b j hj) (two_len a b)) (two_one a b) (by omega) (by decide) (by decide) (Nat.le_refl _) _ rfl ?_; intro g2 cap2 w1 hO2 hgrow hat hlt)
  simp only [Nat.zero_add, List.nil_append] at hO2
  have hb : Below wc.heap.size wc w1 := (Below.refl _ _).grown hgrow (Nat.le_refl _) (fun k hk => by cases hk)
  obtain ⟨g', cap', he, _, hR2⟩ := own_rd (f := two a b) hO2 (fun j hj => two_at a b j hj) (by omega)
  obtain ⟨rfl, rfl⟩ : g2 = g' ∧ cap2 = cap' := by simpa using he
  clear he hO2 hgrow hat hlt hi hz0 hz1 hz2
  have PA := PA.keep hb
  have PB := PB.keep hb
  have hR := hR.keep hb
  have hB : Below w.heap.size w w1 := K.call hB hb
  clear hb
  with_reducible refine Calls.mono (wide_two a b hR.rd) ?_
  rintro e w2 ⟨rfl, hb⟩
  have PW := Ar8.new w2 w2.heap.size rfl 30 (L 0 a) (L 1 a) (L 2 a) (L 3 a) (L 0 b) (L 1 b) (L 2 b) (L 3 b)
  have hbA := (Below.refl w2.heap.size w2).alloc (Nat.le_refl _) (.cells #[.int .u64 (L 0 a), .int .u64 (L 1 a), .int .u64 (L 2 a), .int .u64 (L 3 a), .int .u64 (L 0 b), .int .u64 (L 1 b), .int .u64 (L 2 b), .int .u64 (L 3 b)] 30)
  have PA := (PA.keep hb).keep hbA
  have PB := (PB.keep hb).keep hbA
  have hR := (hR.keep hb).keep hbA
  have hR2 := (hR2.keep hb).keep hbA
  have hB : Below w.heap.size w (w2.alloc (.cells #[.int .u64 (L 0 a), .int .u64 (L 1 a), .int .u64 (L 2 a), .int .u64 (L 3 a), .int .u64 (L 0 b), .int .u64 (L 1 b), .int .u64 (L 2 b), .int .u64 (L 3 b)] 30)) := K.alloc (K.call hB hb) _
  clear hb hbA
  go_wp2_with fail
  generalize hnw : w2.heap.size = bw at *
  clear hnw
  generalize w2.alloc (.cells #[.int .u64 (L 0 a), .int .u64 (L 1 a), .int .u64 (L 2 a), .int .u64 (L 3 a), .int .u64 (L 0 b), .int .u64 (L 1 b), .int .u64 (L 2 b), .int .u64 (L 3 b)] 30) = W2 at *
  with_reducible refine Calls.mono (big_any (two_bd a b) (hR.rd.first 32 (by omega))) ?_
  rintro e w3 ⟨rfl, hb⟩
  have hR := hR.keep hb
  have hR2 := hR2.keep hb
  have ⟨la, a0, a1, a2, a3⟩ := PA.keep hb
  have ⟨lb, b0, b1, b2, b3⟩ := PB.keep hb
  have ⟨lq, q0, q1, q2, q3, q4, q5, q6, q7⟩ := PW.keep hb
  have hB : Below w.heap.size w w3 := K.call hB hb
  clear hb PA PB PW
  go_wp2_with fail
  with_reducible refine Calls.mono (same_true (by omega) hR.rd hR2.rd (fun i hi => rfl)) ?_
  rintro e w4 ⟨rfl, hb⟩
  have hB : Below w.heap.size w w4 := K.call hB hb
  go_wp2_with fail
  go_ret
  exact ⟨rfl, hB⟩
end Go.Proofs.Ytnfgkflhanjjcaa
