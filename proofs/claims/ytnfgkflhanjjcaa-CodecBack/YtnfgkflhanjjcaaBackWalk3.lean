/- CodecBack. -/
import Derived.Test.YtnfgkflhanjjcaaCBack
import Derived.Deep.DeepCutAuto
import Derived.Deep.RegionHeld3
namespace Go.Proofs.Ytnfgkflhanjjcaa
open Go.RowKit
attribute [local go_sem ↓] Go.wp_at_zero Go.wp_at_succ
attribute [local go_sem] eq4_same

set_option maxHeartbeats 1000000 in
theorem back_long {a : Int} (v : Option Addr) (n cap : Nat) (hn : 100 < n) (w : World) :
    Calls Try.prog 4 #[.agg #[.int .u64 (L 0 a), .int .u64 (L 1 a), .int .u64 (L 2 a), .int .u64 (L 3 a)], .slice v n cap] w fun e w' => e = .returned (.bool true) ∧ Below w.heap.size w w' := by
  have hni : (100 : Int) < n := by omega
  go_enter Try.func4, Try.ntmps4
  go_wp2_with fail
  with_reducible refine Calls.mono (awake_any _) ?_
  rintro e w0 ⟨rfl, hb0⟩
  go_wp2_with fail
  with_reducible refine Calls.mono (awake_any _) ?_
  rintro e w1 ⟨rfl, hb1⟩
  go_wp2_with fail
  go_ret
  exact ⟨rfl, K.call (K.call (K.alloc (Below.refl _ _) _) hb0) hb1⟩

set_option maxRecDepth 100000 in
set_option maxHeartbeats 8000000 in
theorem back_32 {a : Int} {b o cap : Nat} {f : Nat → Int} {u v : Int} {w : World} (HD : Hid (∀ w1, Below w.heap.size w w1 → Rd w1 b o 32 f)) (HU : Hid (∀ i, i < 32 → Y i u = f (31 - i))) (HV : Hid (∀ i, i < 32 → Y i v = f i)) (HCB : Hid (∀ w1, Below w.heap.size w w1 → Calls Try.prog 8 #[.slice (some ⟨b, o, none⟩) 32 cap] w1 fun e w' => e = .returned (.tuple #[.agg #[.int .u64 (L 0 u), .int .u64 (L 1 u), .int .u64 (L 2 u), .int .u64 (L 3 u)], .bool true]) ∧ Below w1.heap.size w1 w')) (HCL : Hid (∀ w1, Below w.heap.size w w1 → Calls Try.prog 10 #[.slice (some ⟨b, o, none⟩) 32 cap] w1 fun e w' => e = .returned (.tuple #[.agg #[.int .u64 (L 0 v), .int .u64 (L 1 v), .int .u64 (L 2 v), .int .u64 (L 3 v)], .bool true]) ∧ Below w1.heap.size w1 w')) :
    Calls Try.prog 4 #[.agg #[.int .u64 (L 0 a), .int .u64 (L 1 a), .int .u64 (L 2 a), .int .u64 (L 3 a)], .slice (some ⟨b, o, none⟩) 32 cap] w fun e w' => e = .returned (.bool true) ∧ Below w.heap.size w w' := by
  go_enter Try.func4, Try.ntmps4
  go_wp2_with fail
  with_reducible refine Calls.mono (awake_any _) ?_
  rintro e w0 ⟨rfl, hb⟩
  have PA := (Arr.new w w.heap.size rfl 26 (L 0 a) (L 1 a) (L 2 a) (L 3 a)).keep hb
  have hB : Below w.heap.size w w0 := K.call (K.alloc (Below.refl _ _) _) hb
  clear hb
  have ⟨la, a0, a1, a2, a3⟩ := PA
  go_wp2_with fail
  with_reducible refine Calls.mono (putBig_any a _) ?_
  rintro e w1 ⟨rfl, hR, hb⟩
  clear la a0 a1 a2 a3
  have PA := PA.keep hb
  have hB : Below w.heap.size w w1 := K.call hB hb
  clear hb
  go_wp2_with fail
  with_reducible refine Calls.mono (big_put a hR.rd) ?_
  rintro e w2 ⟨rfl, hb⟩
  clear hR
  have PA := (PA.keep hb).alloc (.cells #[.int .u64 (L 0 a), .int .u64 (L 1 a), .int .u64 (L 2 a), .int .u64 (L 3 a)] 26)
  have PX := Arr.new w2 w2.heap.size rfl 26 (L 0 a) (L 1 a) (L 2 a) (L 3 a)
  have hB : Below w.heap.size w (w2.alloc (.cells #[.int .u64 (L 0 a), .int .u64 (L 1 a), .int .u64 (L 2 a), .int .u64 (L 3 a)] 26)) := K.alloc (K.call hB hb) _
  clear hb
  have ⟨la, a0, a1, a2, a3⟩ := PA
  go_wp2_with fail
  generalize hnx : w2.heap.size = bx at *
  clear hnx
  generalize w2.alloc (.cells #[.int .u64 (L 0 a), .int .u64 (L 1 a), .int .u64 (L 2 a), .int .u64 (L 3 a)] 26) = W2 at *
  with_reducible refine Calls.mono (putLittle_any a _) ?_
  rintro e w3 ⟨rfl, hR, hb⟩
  clear la a0 a1 a2 a3
  have PA := PA.keep hb
  have PX := PX.keep hb
  have hB : Below w.heap.size w w3 := K.call hB hb
  clear hb
  go_wp2_with fail
  with_reducible refine Calls.mono (little_put a hR.rd) ?_
  rintro e w4 ⟨rfl, hb⟩
  clear hR
  have PA := (PA.keep hb).alloc (.cells #[.int .u64 (L 0 a), .int .u64 (L 1 a), .int .u64 (L 2 a), .int .u64 (L 3 a)] 26)
  have PX := (PX.keep hb).alloc (.cells #[.int .u64 (L 0 a), .int .u64 (L 1 a), .int .u64 (L 2 a), .int .u64 (L 3 a)] 26)
  have PY := Arr.new w4 w4.heap.size rfl 26 (L 0 a) (L 1 a) (L 2 a) (L 3 a)
  have hB : Below w.heap.size w (w4.alloc (.cells #[.int .u64 (L 0 a), .int .u64 (L 1 a), .int .u64 (L 2 a), .int .u64 (L 3 a)] 26)) := K.alloc (K.call hB hb) _
  clear hb
  go_wp2_with fail
  generalize hny : w4.heap.size = byy at *
  clear hny
  generalize w4.alloc (.cells #[.int .u64 (L 0 a), .int .u64 (L 1 a), .int .u64 (L 2 a), .int .u64 (L 3 a)] 26) = W0 at *
  have ⟨la, a0, a1, a2, a3⟩ := PA
  have ⟨lx, x0, x1, x2, x3⟩ := PX
  have ⟨ly, y0, y1, y2, y3⟩ := PY
  have hS : Hid (∀ w', Below W0.heap.size W0 w' → (Below W0.heap.size W0 w' ∧ w'.cell? ⟨w.heap.size, 0, none⟩ = some (.int .u64 (L 0 a)) ∧ w'.cell? ⟨w.heap.size, 1, none⟩ = some (.int .u64 (L 1 a)) ∧ w'.cell? ⟨w.heap.size, 2, none⟩ = some (.int .u64 (L 2 a)) ∧ w'.cell? ⟨w.heap.size, 3, none⟩ = some (.int .u64 (L 3 a)) ∧ w'.cell? ⟨bx, 0, none⟩ = some (.int .u64 (L 0 a)) ∧ w'.cell? ⟨bx, 1, none⟩ = some (.int .u64 (L 1 a)) ∧ w'.cell? ⟨bx, 2, none⟩ = some (.int .u64 (L 2 a)) ∧ w'.cell? ⟨bx, 3, none⟩ = some (.int .u64 (L 3 a)) ∧ w'.cell? ⟨byy, 0, none⟩ = some (.int .u64 (L 0 a)) ∧ w'.cell? ⟨byy, 1, none⟩ = some (.int .u64 (L 1 a)) ∧ w'.cell? ⟨byy, 2, none⟩ = some (.int .u64 (L 2 a)) ∧ w'.cell? ⟨byy, 3, none⟩ = some (.int .u64 (L 3 a)))) := fun w' hB => ⟨hB, later hB a0, later hB a1, later hB a2, later hB a3, later hB x0, later hB x1, later hB x2, later hB x3, later hB y0, later hB y1, later hB y2, later hB y3⟩
  clear la a0 a1 a2 a3 lx x0 x1 x2 x3 ly y0 y1 y2 y3 PX PY
  go_cut [57] (fun s57 wc => s57 = .bool false ∧ Below W0.heap.size W0 wc)
  case first =>
    go_region_held3 (fun w' => Below W0.heap.size W0 w' ∧ w'.cell? ⟨w.heap.size, 0, none⟩ = some (.int .u64 (L 0 a)) ∧ w'.cell? ⟨w.heap.size, 1, none⟩ = some (.int .u64 (L 1 a)) ∧ w'.cell? ⟨w.heap.size, 2, none⟩ = some (.int .u64 (L 2 a)) ∧ w'.cell? ⟨w.heap.size, 3, none⟩ = some (.int .u64 (L 3 a)) ∧ w'.cell? ⟨bx, 0, none⟩ = some (.int .u64 (L 0 a)) ∧ w'.cell? ⟨bx, 1, none⟩ = some (.int .u64 (L 1 a)) ∧ w'.cell? ⟨bx, 2, none⟩ = some (.int .u64 (L 2 a)) ∧ w'.cell? ⟨bx, 3, none⟩ = some (.int .u64 (L 3 a)) ∧ w'.cell? ⟨byy, 0, none⟩ = some (.int .u64 (L 0 a)) ∧ w'.cell? ⟨byy, 1, none⟩ = some (.int .u64 (L 1 a)) ∧ w'.cell? ⟨byy, 2, none⟩ = some (.int .u64 (L 2 a)) ∧ w'.cell? ⟨byy, 3, none⟩ = some (.int .u64 (L 3 a)))
      ((refine hS.out _ ?_; first | (with_reducible exact K.drew (Below.refl _ _)) | (with_reducible exact K.drew (K.alloc (Below.refl _ _) _)) | (with_reducible exact Below.refl _ _) | (with_reducible exact K.call (by go_split_ands; assumption) hk) | (with_reducible exact K.alloc (by go_split_ands; assumption) _) | (with_reducible exact K.again (by go_split_ands; assumption) (by omega) _) | (with_reducible exact K.set (by go_split_ands; assumption) (by first | omega | (simp; done) | (simp; omega)) _) | (with_reducible exact K.set (K.set (K.set (K.set (by go_split_ands; assumption) (by first | omega | (simp; done) | (simp; omega)) _) (by first | omega | (simp; done) | (simp; omega)) _) (by first | omega | (simp; done) | (simp; omega)) _) (by first | omega | (simp; done) | (simp; omega)) _)))
      (first
        | (go_at_call 14; with_reducible refine Calls.mono (putBig_ex a _) ?_; rintro e w' ⟨nA, rfl, hRA, hk⟩; have hz := hk.size; (try simp at hz))
        | (go_at_call 17; with_reducible refine Calls.mono (turned_any (by omega) hRA.rd) ?_; rintro e w' ⟨v, rfl, hown, hk⟩; obtain ⟨g, c, rfl, _, hRT⟩ := own_rd (f := fun i => Y (31 - (31 - i)) a) hown (fun j hj => rv_at _ 32 32 j hj) (by omega); clear hown; have hz := hk.size; (try simp at hz))
        | (go_at_call 15; with_reducible refine Calls.mono (putLittle_ex a _) ?_; rintro e w' ⟨nL, rfl, hRL, hk⟩; have hRT := hRT.keep hk; have hz := hk.size; (try simp at hz))
        | (go_at_call 16; with_reducible refine Calls.mono (same_true (by omega) hRT.rd hRL.rd (fun i hi => by rw [show 31 - (31 - i) = i by omega])) ?_; rintro e w' ⟨rfl, hk⟩))
    all_goals
      have hH := ‹Below _ _ _ ∧ _›
      (try go_wp2_with fail)
      go_meet
      exact ⟨rfl, hH.1⟩
  case rest =>
  obtain ⟨rfl, hb⟩ := hcut
  have hB : Below w.heap.size w wc := K.call hB hb
  clear hS hb PA
  go_wp2_with fail
  with_reducible refine Calls.mono (HCB.out _ hB) ?_
  rintro e w5 ⟨rfl, hb⟩
  have PU := Arr.new w5 w5.heap.size rfl 26 (L 0 u) (L 1 u) (L 2 u) (L 3 u)
  have hB : Below w.heap.size w (w5.alloc (.cells #[.int .u64 (L 0 u), .int .u64 (L 1 u), .int .u64 (L 2 u), .int .u64 (L 3 u)] 26)) := K.alloc (K.call hB hb) _
  clear hb
  go_wp2_with fail
  generalize hnu : w5.heap.size = bu at *
  clear hnu
  generalize w5.alloc (.cells #[.int .u64 (L 0 u), .int .u64 (L 1 u), .int .u64 (L 2 u), .int .u64 (L 3 u)] 26) = W5 at *
  with_reducible refine Calls.mono (HCL.out _ hB) ?_
  rintro e w6 ⟨rfl, hb⟩
  have PU := (PU.keep hb).alloc (.cells #[.int .u64 (L 0 v), .int .u64 (L 1 v), .int .u64 (L 2 v), .int .u64 (L 3 v)] 26)
  have PV := Arr.new w6 w6.heap.size rfl 26 (L 0 v) (L 1 v) (L 2 v) (L 3 v)
  have hB : Below w.heap.size w (w6.alloc (.cells #[.int .u64 (L 0 v), .int .u64 (L 1 v), .int .u64 (L 2 v), .int .u64 (L 3 v)] 26)) := K.alloc (K.call hB hb) _
  clear hb
  have ⟨lu, u0, u1, u2, u3⟩ := PU
  go_wp2_with fail
  generalize hnv : w6.heap.size = bv at *
  clear hnv
  generalize w6.alloc (.cells #[.int .u64 (L 0 v), .int .u64 (L 1 v), .int .u64 (L 2 v), .int .u64 (L 3 v)] 26) = W6 at *
  with_reducible refine Calls.mono (putBig_any u _) ?_
  rintro e w7 ⟨rfl, hR, hb⟩
  clear lu u0 u1 u2 u3 PU
  have PV := PV.keep hb
  have hB : Below w.heap.size w w7 := K.call hB hb
  clear hb
  go_wp2_with fail
  with_reducible refine Calls.mono (same_true (by omega) hR.rd (HD.out _ hB) (fun i hi => by rw [HU.out (31 - i) (by omega), show 31 - (31 - i) = i by omega])) ?_
  rintro e w8 ⟨rfl, hb⟩
  clear hR
  have PV := PV.keep hb
  have hB : Below w.heap.size w w8 := K.call hB hb
  clear hb
  have ⟨lv, v0, v1, v2, v3⟩ := PV
  go_wp2_with fail
  with_reducible refine Calls.mono (putLittle_any v _) ?_
  rintro e w9 ⟨rfl, hR, hb⟩
  clear lv v0 v1 v2 v3 PV
  have hB : Below w.heap.size w w9 := K.call hB hb
  clear hb
  go_wp2_with fail
  with_reducible refine Calls.mono (same_true (by omega) hR.rd (HD.out _ hB) (fun i hi => by rw [HV.out i hi])) ?_
  rintro e w10 ⟨rfl, hb⟩
  have hB : Below w.heap.size w w10 := K.call hB hb
  go_wp2_with fail
  go_ret
  exact ⟨rfl, hB⟩

set_option maxRecDepth 100000 in
set_option maxHeartbeats 8000000 in
theorem back_not {a : Int} {s : Option Addr} {n cap : Nat} {w : World} (hn : n ≤ 100) (h32 : n ≠ 32) :
    Calls Try.prog 4 #[.agg #[.int .u64 (L 0 a), .int .u64 (L 1 a), .int .u64 (L 2 a), .int .u64 (L 3 a)], .slice s n cap] w fun e w' => e = .returned (.bool true) ∧ Below w.heap.size w w' := by
  go_enter Try.func4, Try.ntmps4
  go_wp2_with fail
  with_reducible refine Calls.mono (awake_any _) ?_
  rintro e w0 ⟨rfl, hb⟩
  have PA := (Arr.new w w.heap.size rfl 26 (L 0 a) (L 1 a) (L 2 a) (L 3 a)).keep hb
  have hB : Below w.heap.size w w0 := K.call (K.alloc (Below.refl _ _) _) hb
  clear hb
  have ⟨la, a0, a1, a2, a3⟩ := PA
  go_wp2_with fail
  with_reducible refine Calls.mono (putBig_any a _) ?_
  rintro e w1 ⟨rfl, hR, hb⟩
  clear la a0 a1 a2 a3
  have PA := PA.keep hb
  have hB : Below w.heap.size w w1 := K.call hB hb
  clear hb
  go_wp2_with fail
  with_reducible refine Calls.mono (big_put a hR.rd) ?_
  rintro e w2 ⟨rfl, hb⟩
  clear hR
  have PA := (PA.keep hb).alloc (.cells #[.int .u64 (L 0 a), .int .u64 (L 1 a), .int .u64 (L 2 a), .int .u64 (L 3 a)] 26)
  have PX := Arr.new w2 w2.heap.size rfl 26 (L 0 a) (L 1 a) (L 2 a) (L 3 a)
  have hB : Below w.heap.size w (w2.alloc (.cells #[.int .u64 (L 0 a), .int .u64 (L 1 a), .int .u64 (L 2 a), .int .u64 (L 3 a)] 26)) := K.alloc (K.call hB hb) _
  clear hb
  have ⟨la, a0, a1, a2, a3⟩ := PA
  go_wp2_with fail
  generalize hnx : w2.heap.size = bx at *
  clear hnx
  generalize w2.alloc (.cells #[.int .u64 (L 0 a), .int .u64 (L 1 a), .int .u64 (L 2 a), .int .u64 (L 3 a)] 26) = W2 at *
  with_reducible refine Calls.mono (putLittle_any a _) ?_
  rintro e w3 ⟨rfl, hR, hb⟩
  clear la a0 a1 a2 a3
  have PA := PA.keep hb
  have PX := PX.keep hb
  have hB : Below w.heap.size w w3 := K.call hB hb
  clear hb
  go_wp2_with fail
  with_reducible refine Calls.mono (little_put a hR.rd) ?_
  rintro e w4 ⟨rfl, hb⟩
  clear hR
  have PA := (PA.keep hb).alloc (.cells #[.int .u64 (L 0 a), .int .u64 (L 1 a), .int .u64 (L 2 a), .int .u64 (L 3 a)] 26)
  have PX := (PX.keep hb).alloc (.cells #[.int .u64 (L 0 a), .int .u64 (L 1 a), .int .u64 (L 2 a), .int .u64 (L 3 a)] 26)
  have PY := Arr.new w4 w4.heap.size rfl 26 (L 0 a) (L 1 a) (L 2 a) (L 3 a)
  have hB : Below w.heap.size w (w4.alloc (.cells #[.int .u64 (L 0 a), .int .u64 (L 1 a), .int .u64 (L 2 a), .int .u64 (L 3 a)] 26)) := K.alloc (K.call hB hb) _
  clear hb
  go_wp2_with fail
  generalize hny : w4.heap.size = byy at *
  clear hny
  generalize w4.alloc (.cells #[.int .u64 (L 0 a), .int .u64 (L 1 a), .int .u64 (L 2 a), .int .u64 (L 3 a)] 26) = W0 at *
  have ⟨la, a0, a1, a2, a3⟩ := PA
  have ⟨lx, x0, x1, x2, x3⟩ := PX
  have ⟨ly, y0, y1, y2, y3⟩ := PY
  have hS : Hid (∀ w', Below W0.heap.size W0 w' → (Below W0.heap.size W0 w' ∧ w'.cell? ⟨w.heap.size, 0, none⟩ = some (.int .u64 (L 0 a)) ∧ w'.cell? ⟨w.heap.size, 1, none⟩ = some (.int .u64 (L 1 a)) ∧ w'.cell? ⟨w.heap.size, 2, none⟩ = some (.int .u64 (L 2 a)) ∧ w'.cell? ⟨w.heap.size, 3, none⟩ = some (.int .u64 (L 3 a)) ∧ w'.cell? ⟨bx, 0, none⟩ = some (.int .u64 (L 0 a)) ∧ w'.cell? ⟨bx, 1, none⟩ = some (.int .u64 (L 1 a)) ∧ w'.cell? ⟨bx, 2, none⟩ = some (.int .u64 (L 2 a)) ∧ w'.cell? ⟨bx, 3, none⟩ = some (.int .u64 (L 3 a)) ∧ w'.cell? ⟨byy, 0, none⟩ = some (.int .u64 (L 0 a)) ∧ w'.cell? ⟨byy, 1, none⟩ = some (.int .u64 (L 1 a)) ∧ w'.cell? ⟨byy, 2, none⟩ = some (.int .u64 (L 2 a)) ∧ w'.cell? ⟨byy, 3, none⟩ = some (.int .u64 (L 3 a)))) := fun w' hB => ⟨hB, later hB a0, later hB a1, later hB a2, later hB a3, later hB x0, later hB x1, later hB x2, later hB x3, later hB y0, later hB y1, later hB y2, later hB y3⟩
  clear la a0 a1 a2 a3 lx x0 x1 x2 x3 ly y0 y1 y2 y3 PX PY
  go_cut [57] (fun s57 wc => s57 = .bool false ∧ Below W0.heap.size W0 wc)
  case first =>
    go_region_held3 (fun w' => Below W0.heap.size W0 w' ∧ w'.cell? ⟨w.heap.size, 0, none⟩ = some (.int .u64 (L 0 a)) ∧ w'.cell? ⟨w.heap.size, 1, none⟩ = some (.int .u64 (L 1 a)) ∧ w'.cell? ⟨w.heap.size, 2, none⟩ = some (.int .u64 (L 2 a)) ∧ w'.cell? ⟨w.heap.size, 3, none⟩ = some (.int .u64 (L 3 a)) ∧ w'.cell? ⟨bx, 0, none⟩ = some (.int .u64 (L 0 a)) ∧ w'.cell? ⟨bx, 1, none⟩ = some (.int .u64 (L 1 a)) ∧ w'.cell? ⟨bx, 2, none⟩ = some (.int .u64 (L 2 a)) ∧ w'.cell? ⟨bx, 3, none⟩ = some (.int .u64 (L 3 a)) ∧ w'.cell? ⟨byy, 0, none⟩ = some (.int .u64 (L 0 a)) ∧ w'.cell? ⟨byy, 1, none⟩ = some (.int .u64 (L 1 a)) ∧ w'.cell? ⟨byy, 2, none⟩ = some (.int .u64 (L 2 a)) ∧ w'.cell? ⟨byy, 3, none⟩ = some (.int .u64 (L 3 a)))
      ((refine hS.out _ ?_; first | (with_reducible exact K.drew (Below.refl _ _)) | (with_reducible exact K.drew (K.alloc (Below.refl _ _) _)) | (with_reducible exact Below.refl _ _) | (with_reducible exact K.call (by go_split_ands; assumption) hk) | (with_reducible exact K.alloc (by go_split_ands; assumption) _) | (with_reducible exact K.again (by go_split_ands; assumption) (by omega) _) | (with_reducible exact K.set (by go_split_ands; assumption) (by first | omega | (simp; done) | (simp; omega)) _) | (with_reducible exact K.set (K.set (K.set (K.set (by go_split_ands; assumption) (by first | omega | (simp; done) | (simp; omega)) _) (by first | omega | (simp; done) | (simp; omega)) _) (by first | omega | (simp; done) | (simp; omega)) _) (by first | omega | (simp; done) | (simp; omega)) _)))
      (first
        | (go_at_call 14; with_reducible refine Calls.mono (putBig_ex a _) ?_; rintro e w' ⟨nA, rfl, hRA, hk⟩; have hz := hk.size; (try simp at hz))
        | (go_at_call 17; with_reducible refine Calls.mono (turned_any (by omega) hRA.rd) ?_; rintro e w' ⟨v, rfl, hown, hk⟩; obtain ⟨g, c, rfl, _, hRT⟩ := own_rd (f := fun i => Y (31 - (31 - i)) a) hown (fun j hj => rv_at _ 32 32 j hj) (by omega); clear hown; have hz := hk.size; (try simp at hz))
        | (go_at_call 15; with_reducible refine Calls.mono (putLittle_ex a _) ?_; rintro e w' ⟨nL, rfl, hRL, hk⟩; have hRT := hRT.keep hk; have hz := hk.size; (try simp at hz))
        | (go_at_call 16; with_reducible refine Calls.mono (same_true (by omega) hRT.rd hRL.rd (fun i hi => by rw [show 31 - (31 - i) = i by omega])) ?_; rintro e w' ⟨rfl, hk⟩))
    all_goals
      have hH := ‹Below _ _ _ ∧ _›
      (try go_wp2_with fail)
      go_meet
      exact ⟨rfl, hH.1⟩
  case rest =>
  obtain ⟨rfl, hb⟩ := hcut
  have hB : Below w.heap.size w wc := K.call hB hb
  clear hS hb PA
  have hnb : ((n : Int) == 32) = false := beq_eq_false_iff_ne.2 (by omega)
  go_wp2_with fail
  with_reducible refine Calls.mono (big_not s n cap h32 _) ?_
  rintro e w5 ⟨rfl, hb⟩
  have PU := Arr.new w5 w5.heap.size rfl 26 0 0 0 0
  have hB : Below w.heap.size w (w5.alloc (.cells #[.int .u64 0, .int .u64 0, .int .u64 0, .int .u64 0] 26)) := K.alloc (K.call hB hb) _
  clear hb
  go_wp2_with fail
  generalize hnu : w5.heap.size = bu at *
  clear hnu
  generalize w5.alloc (.cells #[.int .u64 0, .int .u64 0, .int .u64 0, .int .u64 0] 26) = W5 at *
  with_reducible refine Calls.mono (little_not s n cap h32 _) ?_
  rintro e w6 ⟨rfl, hb⟩
  have PU := (PU.keep hb).alloc (.cells #[.int .u64 0, .int .u64 0, .int .u64 0, .int .u64 0] 26)
  have PV := Arr.new w6 w6.heap.size rfl 26 0 0 0 0
  have hB : Below w.heap.size w (w6.alloc (.cells #[.int .u64 0, .int .u64 0, .int .u64 0, .int .u64 0] 26)) := K.alloc (K.call hB hb) _
  clear hb
  go_wp2_with fail
  go_ret
  exact ⟨rfl, hB⟩

theorem back_walk {a : Int} (_ : Num a) {v : Option Addr} {n cap : Nat} {f : Nat → Int} {w : World} (h : BytesAt w v n cap f) :
    Calls Try.prog 4 #[.agg #[.int .u64 (L 0 a), .int .u64 (L 1 a), .int .u64 (L 2 a), .int .u64 (L 3 a)], .slice v n cap] w fun e w' => e = .returned (.bool true) ∧ Below w.heap.size w w' := by
  by_cases hn : 100 < n
  · exact back_long v n cap hn w
  by_cases h32 : n = 32
  · subst h32
    rcases h.rd with h0 | ⟨b, o, rfl, hD⟩
    · omega
    · obtain ⟨u, _, ⟨e0, e1, e2, e3⟩, hu⟩ := num_bytes (f := fun i => f (31 - i)) (fun i => h.bd _)
      obtain ⟨x, _, ⟨g0, g1, g2, g3⟩, hx⟩ := num_bytes h.bd
      refine back_32 (u := u) (v := x) (fun w1 hb => hD.keep hb) hu hx (fun w1 hb => ?_) (fun w1 hb => ?_)
      · have hc := big_any (cap := cap) h.bd (hD.keep hb)
        rw [e0, e1, e2, e3] at hc
        exact hc
      · have hc := little_any (cap := cap) h.bd (hD.keep hb)
        rw [g0, g1, g2, g3] at hc
        exact hc
  · exact back_not (by omega) h32
end Go.Proofs.Ytnfgkflhanjjcaa
