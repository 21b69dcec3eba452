/- CodecTakes. -/
import Derived.Test.YtnfgkflhanjjcaaCAr8
import Derived.Test.YtnfgkflhanjjcaaCLittle
import Derived.Test.YtnfgkflhanjjcaaCBig
import Derived.Test.YtnfgkflhanjjcaaCWide
namespace Go.Proofs.Ytnfgkflhanjjcaa
open Go.RowKit
attribute [local go_sem ↓] Go.wp_at_zero Go.wp_at_succ
attribute [local go_sem] eq4_same eq8_same

set_option maxHeartbeats 1000000 in
theorem takes_long (v : Option Addr) (n cap : Nat) (hn : 100 < n) (w : World) :
    Calls Try.prog 3 #[.slice v n cap] w fun e w' => e = .returned (.bool true) ∧ Below w.heap.size w w' := by
  have hni : (100 : Int) < n := by omega
  go_enter Try.func3, Try.ntmps3
  go_wp2_with fail
  with_reducible refine Calls.mono (awake_any _) ?_
  rintro e w0 ⟨rfl, hb0⟩
  go_wp2_with fail
  with_reducible refine Calls.mono (awake_any _) ?_
  rintro e w1 ⟨rfl, hb1⟩
  go_wp2_with fail
  go_ret
  exact ⟨rfl, K.call hb0 hb1⟩

set_option maxHeartbeats 4000000 in
theorem takes_32 {b o cap : Nat} {f : Nat → Int} (hcap : 32 ≤ cap) (HF : Hid (∀ i, 0 ≤ f i ∧ f i < 256)) (w : World) (hD : Rd w b o 32 f):
    Calls Try.prog 3 #[.slice (some ⟨b, o, none⟩) 32 cap] w fun e w' => e = .returned (.bool true) ∧ Below w.heap.size w w' := by
  go_enter Try.func3, Try.ntmps3
  go_wp2_with fail
  with_reducible refine Calls.mono (awake_any _) ?_
  rintro e w0 ⟨rfl, hb0⟩
  have hB : Below w.heap.size w w0 := hb0
  clear hb0
  go_wp2_with fail
  with_reducible refine Calls.mono (big_any HF.out (hD.keep hB)) ?_
  rintro e w1 ⟨rfl, hb⟩
  have P0 := Arr.new w1 w1.heap.size rfl 26 (E (fun i => f (31 - i)) 0 8) (E (fun i => f (31 - i)) 8 8) (E (fun i => f (31 - i)) 16 8) (E (fun i => f (31 - i)) 24 8)
  have hB : Below w.heap.size w (w1.alloc (.cells #[.int .u64 (E (fun i => f (31 - i)) 0 8), .int .u64 (E (fun i => f (31 - i)) 8 8), .int .u64 (E (fun i => f (31 - i)) 16 8), .int .u64 (E (fun i => f (31 - i)) 24 8)] 26)) := K.alloc (K.call hB hb) _
  clear hb
  go_wp2_with fail
  generalize hn0 : w1.heap.size = b0 at *
  clear hn0
  generalize w1.alloc (.cells #[.int .u64 (E (fun i => f (31 - i)) 0 8), .int .u64 (E (fun i => f (31 - i)) 8 8), .int .u64 (E (fun i => f (31 - i)) 16 8), .int .u64 (E (fun i => f (31 - i)) 24 8)] 26) = W1 at *
  with_reducible refine Calls.mono (refBig_any HF.out (hD.keep hB)) ?_
  rintro e w2 ⟨rfl, hb⟩
  have P0 := (P0.keep hb).keep ((Below.refl _ _).alloc (Nat.le_refl _) (.cells #[.int .u64 (E (fun i => f (31 - i)) 0 8), .int .u64 (E (fun i => f (31 - i)) 8 8), .int .u64 (E (fun i => f (31 - i)) 16 8), .int .u64 (E (fun i => f (31 - i)) 24 8)] 26))
  have P1 := Arr.new w2 w2.heap.size rfl 26 (E (fun i => f (31 - i)) 0 8) (E (fun i => f (31 - i)) 8 8) (E (fun i => f (31 - i)) 16 8) (E (fun i => f (31 - i)) 24 8)
  have hB : Below w.heap.size w (w2.alloc (.cells #[.int .u64 (E (fun i => f (31 - i)) 0 8), .int .u64 (E (fun i => f (31 - i)) 8 8), .int .u64 (E (fun i => f (31 - i)) 16 8), .int .u64 (E (fun i => f (31 - i)) 24 8)] 26)) := K.alloc (K.call hB hb) _
  clear hb
  go_wp2_with fail
  generalize hn1 : w2.heap.size = b1 at *
  clear hn1
  generalize w2.alloc (.cells #[.int .u64 (E (fun i => f (31 - i)) 0 8), .int .u64 (E (fun i => f (31 - i)) 8 8), .int .u64 (E (fun i => f (31 - i)) 16 8), .int .u64 (E (fun i => f (31 - i)) 24 8)] 26) = W2 at *
  with_reducible refine Calls.mono (little_any HF.out (hD.keep hB)) ?_
  rintro e w3 ⟨rfl, hb⟩
  have P0 := (P0.keep hb).keep ((Below.refl _ _).alloc (Nat.le_refl _) (.cells #[.int .u64 (E f 0 8), .int .u64 (E f 8 8), .int .u64 (E f 16 8), .int .u64 (E f 24 8)] 26))
  have P1 := (P1.keep hb).keep ((Below.refl _ _).alloc (Nat.le_refl _) (.cells #[.int .u64 (E f 0 8), .int .u64 (E f 8 8), .int .u64 (E f 16 8), .int .u64 (E f 24 8)] 26))
  have P2 := Arr.new w3 w3.heap.size rfl 26 (E f 0 8) (E f 8 8) (E f 16 8) (E f 24 8)
  have hB : Below w.heap.size w (w3.alloc (.cells #[.int .u64 (E f 0 8), .int .u64 (E f 8 8), .int .u64 (E f 16 8), .int .u64 (E f 24 8)] 26)) := K.alloc (K.call hB hb) _
  clear hb
  go_wp2_with fail
  generalize hn2 : w3.heap.size = b2 at *
  clear hn2
  generalize w3.alloc (.cells #[.int .u64 (E f 0 8), .int .u64 (E f 8 8), .int .u64 (E f 16 8), .int .u64 (E f 24 8)] 26) = W3 at *
  with_reducible refine Calls.mono (refLittle_any hcap HF.out (hD.keep hB)) ?_
  rintro e w4 ⟨rfl, hb⟩
  have P0 := (P0.keep hb).keep ((Below.refl _ _).alloc (Nat.le_refl _) (.cells #[.int .u64 (E f 0 8), .int .u64 (E f 8 8), .int .u64 (E f 16 8), .int .u64 (E f 24 8)] 26))
  have P1 := (P1.keep hb).keep ((Below.refl _ _).alloc (Nat.le_refl _) (.cells #[.int .u64 (E f 0 8), .int .u64 (E f 8 8), .int .u64 (E f 16 8), .int .u64 (E f 24 8)] 26))
  have P2 := (P2.keep hb).keep ((Below.refl _ _).alloc (Nat.le_refl _) (.cells #[.int .u64 (E f 0 8), .int .u64 (E f 8 8), .int .u64 (E f 16 8), .int .u64 (E f 24 8)] 26))
  have P3 := Arr.new w4 w4.heap.size rfl 26 (E f 0 8) (E f 8 8) (E f 16 8) (E f 24 8)
  have hB : Below w.heap.size w (w4.alloc (.cells #[.int .u64 (E f 0 8), .int .u64 (E f 8 8), .int .u64 (E f 16 8), .int .u64 (E f 24 8)] 26)) := K.alloc (K.call hB hb) _
  clear hb
  go_wp2_with fail
  generalize hn3 : w4.heap.size = b3 at *
  clear hn3
  generalize w4.alloc (.cells #[.int .u64 (E f 0 8), .int .u64 (E f 8 8), .int .u64 (E f 16 8), .int .u64 (E f 24 8)] 26) = W4 at *
  with_reducible refine Calls.mono (wide_not _ 32 _ (by omega) _) ?_
  rintro e w5 ⟨rfl, hb⟩
  have P0 := (P0.keep hb).keep ((Below.refl _ _).alloc (Nat.le_refl _) (.cells #[.int .u64 0, .int .u64 0, .int .u64 0, .int .u64 0, .int .u64 0, .int .u64 0, .int .u64 0, .int .u64 0] 30))
  have P1 := (P1.keep hb).keep ((Below.refl _ _).alloc (Nat.le_refl _) (.cells #[.int .u64 0, .int .u64 0, .int .u64 0, .int .u64 0, .int .u64 0, .int .u64 0, .int .u64 0, .int .u64 0] 30))
  have P2 := (P2.keep hb).keep ((Below.refl _ _).alloc (Nat.le_refl _) (.cells #[.int .u64 0, .int .u64 0, .int .u64 0, .int .u64 0, .int .u64 0, .int .u64 0, .int .u64 0, .int .u64 0] 30))
  have P3 := (P3.keep hb).keep ((Below.refl _ _).alloc (Nat.le_refl _) (.cells #[.int .u64 0, .int .u64 0, .int .u64 0, .int .u64 0, .int .u64 0, .int .u64 0, .int .u64 0, .int .u64 0] 30))
  have P4 := Ar8.new w5 w5.heap.size rfl 30 0 0 0 0 0 0 0 0
  have hB : Below w.heap.size w (w5.alloc (.cells #[.int .u64 0, .int .u64 0, .int .u64 0, .int .u64 0, .int .u64 0, .int .u64 0, .int .u64 0, .int .u64 0] 30)) := K.alloc (K.call hB hb) _
  clear hb
  go_wp2_with fail
  generalize hn4 : w5.heap.size = b4 at *
  clear hn4
  generalize w5.alloc (.cells #[.int .u64 0, .int .u64 0, .int .u64 0, .int .u64 0, .int .u64 0, .int .u64 0, .int .u64 0, .int .u64 0] 30) = W5 at *
  with_reducible refine Calls.mono (refWide_not _ 32 _ (by omega) _) ?_
  rintro e w6 ⟨rfl, hb⟩
  have P0 := (P0.keep hb).keep ((Below.refl _ _).alloc (Nat.le_refl _) (.cells #[.int .u64 0, .int .u64 0, .int .u64 0, .int .u64 0, .int .u64 0, .int .u64 0, .int .u64 0, .int .u64 0] 30))
  have P1 := (P1.keep hb).keep ((Below.refl _ _).alloc (Nat.le_refl _) (.cells #[.int .u64 0, .int .u64 0, .int .u64 0, .int .u64 0, .int .u64 0, .int .u64 0, .int .u64 0, .int .u64 0] 30))
  have P2 := (P2.keep hb).keep ((Below.refl _ _).alloc (Nat.le_refl _) (.cells #[.int .u64 0, .int .u64 0, .int .u64 0, .int .u64 0, .int .u64 0, .int .u64 0, .int .u64 0, .int .u64 0] 30))
  have P3 := (P3.keep hb).keep ((Below.refl _ _).alloc (Nat.le_refl _) (.cells #[.int .u64 0, .int .u64 0, .int .u64 0, .int .u64 0, .int .u64 0, .int .u64 0, .int .u64 0, .int .u64 0] 30))
  have P4 := (P4.keep hb).keep ((Below.refl _ _).alloc (Nat.le_refl _) (.cells #[.int .u64 0, .int .u64 0, .int .u64 0, .int .u64 0, .int .u64 0, .int .u64 0, .int .u64 0, .int .u64 0] 30))
  have P5 := Ar8.new w6 w6.heap.size rfl 30 0 0 0 0 0 0 0 0
  have hB : Below w.heap.size w (w6.alloc (.cells #[.int .u64 0, .int .u64 0, .int .u64 0, .int .u64 0, .int .u64 0, .int .u64 0, .int .u64 0, .int .u64 0] 30)) := K.alloc (K.call hB hb) _
  clear hb
  have ⟨l0, c00, c01, c02, c03⟩ := P0
  have ⟨l1, c10, c11, c12, c13⟩ := P1
  have ⟨l2, c20, c21, c22, c23⟩ := P2
  have ⟨l3, c30, c31, c32, c33⟩ := P3
  have ⟨l4, c40, c41, c42, c43, c44, c45, c46, c47⟩ := P4
  have ⟨l5, c50, c51, c52, c53, c54, c55, c56, c57⟩ := P5
  go_wp2_with fail
  go_ret
  exact ⟨rfl, hB⟩

set_option maxHeartbeats 4000000 in
theorem takes_64 {b o cap : Nat} {f : Nat → Int} (hcap : 64 ≤ cap) (HF : Hid (∀ i, 0 ≤ f i ∧ f i < 256)) (w : World) (hD : Rd w b o 64 f):
    Calls Try.prog 3 #[.slice (some ⟨b, o, none⟩) 64 cap] w fun e w' => e = .returned (.bool true) ∧ Below w.heap.size w w' := by
  go_enter Try.func3, Try.ntmps3
  go_wp2_with fail
  with_reducible refine Calls.mono (awake_any _) ?_
  rintro e w0 ⟨rfl, hb0⟩
  have hB : Below w.heap.size w w0 := hb0
  clear hb0
  go_wp2_with fail
  with_reducible refine Calls.mono (big_not _ 64 _ (by omega) _) ?_
  rintro e w1 ⟨rfl, hb⟩
  have P0 := Arr.new w1 w1.heap.size rfl 26 0 0 0 0
  have hB : Below w.heap.size w (w1.alloc (.cells #[.int .u64 0, .int .u64 0, .int .u64 0, .int .u64 0] 26)) := K.alloc (K.call hB hb) _
  clear hb
  go_wp2_with fail
  generalize hn0 : w1.heap.size = b0 at *
  clear hn0
  generalize w1.alloc (.cells #[.int .u64 0, .int .u64 0, .int .u64 0, .int .u64 0] 26) = W1 at *
  with_reducible refine Calls.mono (refBig_not (by omega) (by omega) (hD.keep hB)) ?_
  rintro e w2 ⟨rfl, hb⟩
  have P0 := (P0.keep hb).keep ((Below.refl _ _).alloc (Nat.le_refl _) (.cells #[.int .u64 0, .int .u64 0, .int .u64 0, .int .u64 0] 26))
  have P1 := Arr.new w2 w2.heap.size rfl 26 0 0 0 0
  have hB : Below w.heap.size w (w2.alloc (.cells #[.int .u64 0, .int .u64 0, .int .u64 0, .int .u64 0] 26)) := K.alloc (K.call hB hb) _
  clear hb
  go_wp2_with fail
  generalize hn1 : w2.heap.size = b1 at *
  clear hn1
  generalize w2.alloc (.cells #[.int .u64 0, .int .u64 0, .int .u64 0, .int .u64 0] 26) = W2 at *
  with_reducible refine Calls.mono (little_not _ 64 _ (by omega) _) ?_
  rintro e w3 ⟨rfl, hb⟩
  have P0 := (P0.keep hb).keep ((Below.refl _ _).alloc (Nat.le_refl _) (.cells #[.int .u64 0, .int .u64 0, .int .u64 0, .int .u64 0] 26))
  have P1 := (P1.keep hb).keep ((Below.refl _ _).alloc (Nat.le_refl _) (.cells #[.int .u64 0, .int .u64 0, .int .u64 0, .int .u64 0] 26))
  have P2 := Arr.new w3 w3.heap.size rfl 26 0 0 0 0
  have hB : Below w.heap.size w (w3.alloc (.cells #[.int .u64 0, .int .u64 0, .int .u64 0, .int .u64 0] 26)) := K.alloc (K.call hB hb) _
  clear hb
  go_wp2_with fail
  generalize hn2 : w3.heap.size = b2 at *
  clear hn2
  generalize w3.alloc (.cells #[.int .u64 0, .int .u64 0, .int .u64 0, .int .u64 0] 26) = W3 at *
  with_reducible refine Calls.mono (refLittle_not _ 64 _ (by omega) _) ?_
  rintro e w4 ⟨rfl, hb⟩
  have P0 := (P0.keep hb).keep ((Below.refl _ _).alloc (Nat.le_refl _) (.cells #[.int .u64 0, .int .u64 0, .int .u64 0, .int .u64 0] 26))
  have P1 := (P1.keep hb).keep ((Below.refl _ _).alloc (Nat.le_refl _) (.cells #[.int .u64 0, .int .u64 0, .int .u64 0, .int .u64 0] 26))
  have P2 := (P2.keep hb).keep ((Below.refl _ _).alloc (Nat.le_refl _) (.cells #[.int .u64 0, .int .u64 0, .int .u64 0, .int .u64 0] 26))
  have P3 := Arr.new w4 w4.heap.size rfl 26 0 0 0 0
  have hB : Below w.heap.size w (w4.alloc (.cells #[.int .u64 0, .int .u64 0, .int .u64 0, .int .u64 0] 26)) := K.alloc (K.call hB hb) _
  clear hb
  go_wp2_with fail
  generalize hn3 : w4.heap.size = b3 at *
  clear hn3
  generalize w4.alloc (.cells #[.int .u64 0, .int .u64 0, .int .u64 0, .int .u64 0] 26) = W4 at *
  with_reducible refine Calls.mono (wide_any HF.out (hD.keep hB)) ?_
  rintro e w5 ⟨rfl, hb⟩
  have P0 := (P0.keep hb).keep ((Below.refl _ _).alloc (Nat.le_refl _) (.cells #[.int .u64 (E f 0 8), .int .u64 (E f 8 8), .int .u64 (E f 16 8), .int .u64 (E f 24 8), .int .u64 (E f 32 8), .int .u64 (E f 40 8), .int .u64 (E f 48 8), .int .u64 (E f 56 8)] 30))
  have P1 := (P1.keep hb).keep ((Below.refl _ _).alloc (Nat.le_refl _) (.cells #[.int .u64 (E f 0 8), .int .u64 (E f 8 8), .int .u64 (E f 16 8), .int .u64 (E f 24 8), .int .u64 (E f 32 8), .int .u64 (E f 40 8), .int .u64 (E f 48 8), .int .u64 (E f 56 8)] 30))
  have P2 := (P2.keep hb).keep ((Below.refl _ _).alloc (Nat.le_refl _) (.cells #[.int .u64 (E f 0 8), .int .u64 (E f 8 8), .int .u64 (E f 16 8), .int .u64 (E f 24 8), .int .u64 (E f 32 8), .int .u64 (E f 40 8), .int .u64 (E f 48 8), .int .u64 (E f 56 8)] 30))
  have P3 := (P3.keep hb).keep ((Below.refl _ _).alloc (Nat.le_refl _) (.cells #[.int .u64 (E f 0 8), .int .u64 (E f 8 8), .int .u64 (E f 16 8), .int .u64 (E f 24 8), .int .u64 (E f 32 8), .int .u64 (E f 40 8), .int .u64 (E f 48 8), .int .u64 (E f 56 8)] 30))
  have P4 := Ar8.new w5 w5.heap.size rfl 30 (E f 0 8) (E f 8 8) (E f 16 8) (E f 24 8) (E f 32 8) (E f 40 8) (E f 48 8) (E f 56 8)
  have hB : Below w.heap.size w (w5.alloc (.cells #[.int .u64 (E f 0 8), .int .u64 (E f 8 8), .int .u64 (E f 16 8), .int .u64 (E f 24 8), .int .u64 (E f 32 8), .int .u64 (E f 40 8), .int .u64 (E f 48 8), .int .u64 (E f 56 8)] 30)) := K.alloc (K.call hB hb) _
  clear hb
  go_wp2_with fail
  generalize hn4 : w5.heap.size = b4 at *
  clear hn4
  generalize w5.alloc (.cells #[.int .u64 (E f 0 8), .int .u64 (E f 8 8), .int .u64 (E f 16 8), .int .u64 (E f 24 8), .int .u64 (E f 32 8), .int .u64 (E f 40 8), .int .u64 (E f 48 8), .int .u64 (E f 56 8)] 30) = W5 at *
  with_reducible refine Calls.mono (refWide_any hcap HF.out (hD.keep hB)) ?_
  rintro e w6 ⟨rfl, hb⟩
  have P0 := (P0.keep hb).keep ((Below.refl _ _).alloc (Nat.le_refl _) (.cells #[.int .u64 (E f 0 8), .int .u64 (E f 8 8), .int .u64 (E f 16 8), .int .u64 (E f 24 8), .int .u64 (E f 32 8), .int .u64 (E f 40 8), .int .u64 (E f 48 8), .int .u64 (E f 56 8)] 30))
  have P1 := (P1.keep hb).keep ((Below.refl _ _).alloc (Nat.le_refl _) (.cells #[.int .u64 (E f 0 8), .int .u64 (E f 8 8), .int .u64 (E f 16 8), .int .u64 (E f 24 8), .int .u64 (E f 32 8), .int .u64 (E f 40 8), .int .u64 (E f 48 8), .int .u64 (E f 56 8)] 30))
  have P2 := (P2.keep hb).keep ((Below.refl _ _).alloc (Nat.le_refl _) (.cells #[.int .u64 (E f 0 8), .int .u64 (E f 8 8), .int .u64 (E f 16 8), .int .u64 (E f 24 8), .int .u64 (E f 32 8), .int .u64 (E f 40 8), .int .u64 (E f 48 8), .int .u64 (E f 56 8)] 30))
  have P3 := (P3.keep hb).keep ((Below.refl _ _).alloc (Nat.le_refl _) (.cells #[.int .u64 (E f 0 8), .int .u64 (E f 8 8), .int .u64 (E f 16 8), .int .u64 (E f 24 8), .int .u64 (E f 32 8), .int .u64 (E f 40 8), .int .u64 (E f 48 8), .int .u64 (E f 56 8)] 30))
  have P4 := (P4.keep hb).keep ((Below.refl _ _).alloc (Nat.le_refl _) (.cells #[.int .u64 (E f 0 8), .int .u64 (E f 8 8), .int .u64 (E f 16 8), .int .u64 (E f 24 8), .int .u64 (E f 32 8), .int .u64 (E f 40 8), .int .u64 (E f 48 8), .int .u64 (E f 56 8)] 30))
  have P5 := Ar8.new w6 w6.heap.size rfl 30 (E f 0 8) (E f 8 8) (E f 16 8) (E f 24 8) (E f 32 8) (E f 40 8) (E f 48 8) (E f 56 8)
  have hB : Below w.heap.size w (w6.alloc (.cells #[.int .u64 (E f 0 8), .int .u64 (E f 8 8), .int .u64 (E f 16 8), .int .u64 (E f 24 8), .int .u64 (E f 32 8), .int .u64 (E f 40 8), .int .u64 (E f 48 8), .int .u64 (E f 56 8)] 30)) := K.alloc (K.call hB hb) _
  clear hb
  have ⟨l0, c00, c01, c02, c03⟩ := P0
  have ⟨l1, c10, c11, c12, c13⟩ := P1
  have ⟨l2, c20, c21, c22, c23⟩ := P2
  have ⟨l3, c30, c31, c32, c33⟩ := P3
  have ⟨l4, c40, c41, c42, c43, c44, c45, c46, c47⟩ := P4
  have ⟨l5, c50, c51, c52, c53, c54, c55, c56, c57⟩ := P5
  go_wp2_with fail
  go_ret
  exact ⟨rfl, hB⟩

set_option maxHeartbeats 4000000 in
theorem takes_other {b o n cap : Nat} {f : Nat → Int} (hn : n ≤ 100) (h32 : n ≠ 32) (h64 : n ≠ 64) (w : World) (hD : Rd w b o n f):
    Calls Try.prog 3 #[.slice (some ⟨b, o, none⟩) n cap] w fun e w' => e = .returned (.bool true) ∧ Below w.heap.size w w' := by
  go_enter Try.func3, Try.ntmps3
  go_wp2_with fail
  with_reducible refine Calls.mono (awake_any _) ?_
  rintro e w0 ⟨rfl, hb0⟩
  have hB : Below w.heap.size w w0 := hb0
  clear hb0
  go_wp2_with fail
  with_reducible refine Calls.mono (big_not _ n _ h32 _) ?_
  rintro e w1 ⟨rfl, hb⟩
  have P0 := Arr.new w1 w1.heap.size rfl 26 0 0 0 0
  have hB : Below w.heap.size w (w1.alloc (.cells #[.int .u64 0, .int .u64 0, .int .u64 0, .int .u64 0] 26)) := K.alloc (K.call hB hb) _
  clear hb
  go_wp2_with fail
  generalize hn0 : w1.heap.size = b0 at *
  clear hn0
  generalize w1.alloc (.cells #[.int .u64 0, .int .u64 0, .int .u64 0, .int .u64 0] 26) = W1 at *
  with_reducible refine Calls.mono (refBig_not hn h32 (hD.keep hB)) ?_
  rintro e w2 ⟨rfl, hb⟩
  have P0 := (P0.keep hb).keep ((Below.refl _ _).alloc (Nat.le_refl _) (.cells #[.int .u64 0, .int .u64 0, .int .u64 0, .int .u64 0] 26))
  have P1 := Arr.new w2 w2.heap.size rfl 26 0 0 0 0
  have hB : Below w.heap.size w (w2.alloc (.cells #[.int .u64 0, .int .u64 0, .int .u64 0, .int .u64 0] 26)) := K.alloc (K.call hB hb) _
  clear hb
  go_wp2_with fail
  generalize hn1 : w2.heap.size = b1 at *
  clear hn1
  generalize w2.alloc (.cells #[.int .u64 0, .int .u64 0, .int .u64 0, .int .u64 0] 26) = W2 at *
  with_reducible refine Calls.mono (little_not _ n _ h32 _) ?_
  rintro e w3 ⟨rfl, hb⟩
  have P0 := (P0.keep hb).keep ((Below.refl _ _).alloc (Nat.le_refl _) (.cells #[.int .u64 0, .int .u64 0, .int .u64 0, .int .u64 0] 26))
  have P1 := (P1.keep hb).keep ((Below.refl _ _).alloc (Nat.le_refl _) (.cells #[.int .u64 0, .int .u64 0, .int .u64 0, .int .u64 0] 26))
  have P2 := Arr.new w3 w3.heap.size rfl 26 0 0 0 0
  have hB : Below w.heap.size w (w3.alloc (.cells #[.int .u64 0, .int .u64 0, .int .u64 0, .int .u64 0] 26)) := K.alloc (K.call hB hb) _
  clear hb
  go_wp2_with fail
  generalize hn2 : w3.heap.size = b2 at *
  clear hn2
  generalize w3.alloc (.cells #[.int .u64 0, .int .u64 0, .int .u64 0, .int .u64 0] 26) = W3 at *
  with_reducible refine Calls.mono (refLittle_not _ n _ h32 _) ?_
  rintro e w4 ⟨rfl, hb⟩
  have P0 := (P0.keep hb).keep ((Below.refl _ _).alloc (Nat.le_refl _) (.cells #[.int .u64 0, .int .u64 0, .int .u64 0, .int .u64 0] 26))
  have P1 := (P1.keep hb).keep ((Below.refl _ _).alloc (Nat.le_refl _) (.cells #[.int .u64 0, .int .u64 0, .int .u64 0, .int .u64 0] 26))
  have P2 := (P2.keep hb).keep ((Below.refl _ _).alloc (Nat.le_refl _) (.cells #[.int .u64 0, .int .u64 0, .int .u64 0, .int .u64 0] 26))
  have P3 := Arr.new w4 w4.heap.size rfl 26 0 0 0 0
  have hB : Below w.heap.size w (w4.alloc (.cells #[.int .u64 0, .int .u64 0, .int .u64 0, .int .u64 0] 26)) := K.alloc (K.call hB hb) _
  clear hb
  go_wp2_with fail
  generalize hn3 : w4.heap.size = b3 at *
  clear hn3
  generalize w4.alloc (.cells #[.int .u64 0, .int .u64 0, .int .u64 0, .int .u64 0] 26) = W4 at *
  with_reducible refine Calls.mono (wide_not _ n _ h64 _) ?_
  rintro e w5 ⟨rfl, hb⟩
  have P0 := (P0.keep hb).keep ((Below.refl _ _).alloc (Nat.le_refl _) (.cells #[.int .u64 0, .int .u64 0, .int .u64 0, .int .u64 0, .int .u64 0, .int .u64 0, .int .u64 0, .int .u64 0] 30))
  have P1 := (P1.keep hb).keep ((Below.refl _ _).alloc (Nat.le_refl _) (.cells #[.int .u64 0, .int .u64 0, .int .u64 0, .int .u64 0, .int .u64 0, .int .u64 0, .int .u64 0, .int .u64 0] 30))
  have P2 := (P2.keep hb).keep ((Below.refl _ _).alloc (Nat.le_refl _) (.cells #[.int .u64 0, .int .u64 0, .int .u64 0, .int .u64 0, .int .u64 0, .int .u64 0, .int .u64 0, .int .u64 0] 30))
  have P3 := (P3.keep hb).keep ((Below.refl _ _).alloc (Nat.le_refl _) (.cells #[.int .u64 0, .int .u64 0, .int .u64 0, .int .u64 0, .int .u64 0, .int .u64 0, .int .u64 0, .int .u64 0] 30))
  have P4 := Ar8.new w5 w5.heap.size rfl 30 0 0 0 0 0 0 0 0
  have hB : Below w.heap.size w (w5.alloc (.cells #[.int .u64 0, .int .u64 0, .int .u64 0, .int .u64 0, .int .u64 0, .int .u64 0, .int .u64 0, .int .u64 0] 30)) := K.alloc (K.call hB hb) _
  clear hb
  go_wp2_with fail
  generalize hn4 : w5.heap.size = b4 at *
  clear hn4
  generalize w5.alloc (.cells #[.int .u64 0, .int .u64 0, .int .u64 0, .int .u64 0, .int .u64 0, .int .u64 0, .int .u64 0, .int .u64 0] 30) = W5 at *
  with_reducible refine Calls.mono (refWide_not _ n _ h64 _) ?_
  rintro e w6 ⟨rfl, hb⟩
  have P0 := (P0.keep hb).keep ((Below.refl _ _).alloc (Nat.le_refl _) (.cells #[.int .u64 0, .int .u64 0, .int .u64 0, .int .u64 0, .int .u64 0, .int .u64 0, .int .u64 0, .int .u64 0] 30))
  have P1 := (P1.keep hb).keep ((Below.refl _ _).alloc (Nat.le_refl _) (.cells #[.int .u64 0, .int .u64 0, .int .u64 0, .int .u64 0, .int .u64 0, .int .u64 0, .int .u64 0, .int .u64 0] 30))
  have P2 := (P2.keep hb).keep ((Below.refl _ _).alloc (Nat.le_refl _) (.cells #[.int .u64 0, .int .u64 0, .int .u64 0, .int .u64 0, .int .u64 0, .int .u64 0, .int .u64 0, .int .u64 0] 30))
  have P3 := (P3.keep hb).keep ((Below.refl _ _).alloc (Nat.le_refl _) (.cells #[.int .u64 0, .int .u64 0, .int .u64 0, .int .u64 0, .int .u64 0, .int .u64 0, .int .u64 0, .int .u64 0] 30))
  have P4 := (P4.keep hb).keep ((Below.refl _ _).alloc (Nat.le_refl _) (.cells #[.int .u64 0, .int .u64 0, .int .u64 0, .int .u64 0, .int .u64 0, .int .u64 0, .int .u64 0, .int .u64 0] 30))
  have P5 := Ar8.new w6 w6.heap.size rfl 30 0 0 0 0 0 0 0 0
  have hB : Below w.heap.size w (w6.alloc (.cells #[.int .u64 0, .int .u64 0, .int .u64 0, .int .u64 0, .int .u64 0, .int .u64 0, .int .u64 0, .int .u64 0] 30)) := K.alloc (K.call hB hb) _
  clear hb
  have ⟨l0, c00, c01, c02, c03⟩ := P0
  have ⟨l1, c10, c11, c12, c13⟩ := P1
  have ⟨l2, c20, c21, c22, c23⟩ := P2
  have ⟨l3, c30, c31, c32, c33⟩ := P3
  have ⟨l4, c40, c41, c42, c43, c44, c45, c46, c47⟩ := P4
  have ⟨l5, c50, c51, c52, c53, c54, c55, c56, c57⟩ := P5
  go_wp2_with fail
  go_ret
  exact ⟨rfl, hB⟩

set_option maxHeartbeats 4000000 in
theorem takes_none (v : Option Addr) (cap : Nat) (w : World) :
    Calls Try.prog 3 #[.slice v 0 cap] w fun e w' => e = .returned (.bool true) ∧ Below w.heap.size w w' := by
  go_enter Try.func3, Try.ntmps3
  go_wp2_with fail
  with_reducible refine Calls.mono (awake_any _) ?_
  rintro e w0 ⟨rfl, hb0⟩
  have hB : Below w.heap.size w w0 := hb0
  clear hb0
  go_wp2_with fail
  with_reducible refine Calls.mono (big_not _ 0 _ (by omega) _) ?_
  rintro e w1 ⟨rfl, hb⟩
  have P0 := Arr.new w1 w1.heap.size rfl 26 0 0 0 0
  have hB : Below w.heap.size w (w1.alloc (.cells #[.int .u64 0, .int .u64 0, .int .u64 0, .int .u64 0] 26)) := K.alloc (K.call hB hb) _
  clear hb
  go_wp2_with fail
  generalize hn0 : w1.heap.size = b0 at *
  clear hn0
  generalize w1.alloc (.cells #[.int .u64 0, .int .u64 0, .int .u64 0, .int .u64 0] 26) = W1 at *
  with_reducible refine Calls.mono (refBig_none v cap _) ?_
  rintro e w2 ⟨rfl, hb⟩
  have P0 := (P0.keep hb).keep ((Below.refl _ _).alloc (Nat.le_refl _) (.cells #[.int .u64 0, .int .u64 0, .int .u64 0, .int .u64 0] 26))
  have P1 := Arr.new w2 w2.heap.size rfl 26 0 0 0 0
  have hB : Below w.heap.size w (w2.alloc (.cells #[.int .u64 0, .int .u64 0, .int .u64 0, .int .u64 0] 26)) := K.alloc (K.call hB hb) _
  clear hb
  go_wp2_with fail
  generalize hn1 : w2.heap.size = b1 at *
  clear hn1
  generalize w2.alloc (.cells #[.int .u64 0, .int .u64 0, .int .u64 0, .int .u64 0] 26) = W2 at *
  with_reducible refine Calls.mono (little_not _ 0 _ (by omega) _) ?_
  rintro e w3 ⟨rfl, hb⟩
  have P0 := (P0.keep hb).keep ((Below.refl _ _).alloc (Nat.le_refl _) (.cells #[.int .u64 0, .int .u64 0, .int .u64 0, .int .u64 0] 26))
  have P1 := (P1.keep hb).keep ((Below.refl _ _).alloc (Nat.le_refl _) (.cells #[.int .u64 0, .int .u64 0, .int .u64 0, .int .u64 0] 26))
  have P2 := Arr.new w3 w3.heap.size rfl 26 0 0 0 0
  have hB : Below w.heap.size w (w3.alloc (.cells #[.int .u64 0, .int .u64 0, .int .u64 0, .int .u64 0] 26)) := K.alloc (K.call hB hb) _
  clear hb
  go_wp2_with fail
  generalize hn2 : w3.heap.size = b2 at *
  clear hn2
  generalize w3.alloc (.cells #[.int .u64 0, .int .u64 0, .int .u64 0, .int .u64 0] 26) = W3 at *
  with_reducible refine Calls.mono (refLittle_not _ 0 _ (by omega) _) ?_
  rintro e w4 ⟨rfl, hb⟩
  have P0 := (P0.keep hb).keep ((Below.refl _ _).alloc (Nat.le_refl _) (.cells #[.int .u64 0, .int .u64 0, .int .u64 0, .int .u64 0] 26))
  have P1 := (P1.keep hb).keep ((Below.refl _ _).alloc (Nat.le_refl _) (.cells #[.int .u64 0, .int .u64 0, .int .u64 0, .int .u64 0] 26))
  have P2 := (P2.keep hb).keep ((Below.refl _ _).alloc (Nat.le_refl _) (.cells #[.int .u64 0, .int .u64 0, .int .u64 0, .int .u64 0] 26))
  have P3 := Arr.new w4 w4.heap.size rfl 26 0 0 0 0
  have hB : Below w.heap.size w (w4.alloc (.cells #[.int .u64 0, .int .u64 0, .int .u64 0, .int .u64 0] 26)) := K.alloc (K.call hB hb) _
  clear hb
  go_wp2_with fail
  generalize hn3 : w4.heap.size = b3 at *
  clear hn3
  generalize w4.alloc (.cells #[.int .u64 0, .int .u64 0, .int .u64 0, .int .u64 0] 26) = W4 at *
  with_reducible refine Calls.mono (wide_not _ 0 _ (by omega) _) ?_
  rintro e w5 ⟨rfl, hb⟩
  have P0 := (P0.keep hb).keep ((Below.refl _ _).alloc (Nat.le_refl _) (.cells #[.int .u64 0, .int .u64 0, .int .u64 0, .int .u64 0, .int .u64 0, .int .u64 0, .int .u64 0, .int .u64 0] 30))
  have P1 := (P1.keep hb).keep ((Below.refl _ _).alloc (Nat.le_refl _) (.cells #[.int .u64 0, .int .u64 0, .int .u64 0, .int .u64 0, .int .u64 0, .int .u64 0, .int .u64 0, .int .u64 0] 30))
  have P2 := (P2.keep hb).keep ((Below.refl _ _).alloc (Nat.le_refl _) (.cells #[.int .u64 0, .int .u64 0, .int .u64 0, .int .u64 0, .int .u64 0, .int .u64 0, .int .u64 0, .int .u64 0] 30))
  have P3 := (P3.keep hb).keep ((Below.refl _ _).alloc (Nat.le_refl _) (.cells #[.int .u64 0, .int .u64 0, .int .u64 0, .int .u64 0, .int .u64 0, .int .u64 0, .int .u64 0, .int .u64 0] 30))
  have P4 := Ar8.new w5 w5.heap.size rfl 30 0 0 0 0 0 0 0 0
  have hB : Below w.heap.size w (w5.alloc (.cells #[.int .u64 0, .int .u64 0, .int .u64 0, .int .u64 0, .int .u64 0, .int .u64 0, .int .u64 0, .int .u64 0] 30)) := K.alloc (K.call hB hb) _
  clear hb
  go_wp2_with fail
  generalize hn4 : w5.heap.size = b4 at *
  clear hn4
  generalize w5.alloc (.cells #[.int .u64 0, .int .u64 0, .int .u64 0, .int .u64 0, .int .u64 0, .int .u64 0, .int .u64 0, .int .u64 0] 30) = W5 at *
  with_reducible refine Calls.mono (refWide_not _ 0 _ (by omega) _) ?_
  rintro e w6 ⟨rfl, hb⟩
  have P0 := (P0.keep hb).keep ((Below.refl _ _).alloc (Nat.le_refl _) (.cells #[.int .u64 0, .int .u64 0, .int .u64 0, .int .u64 0, .int .u64 0, .int .u64 0, .int .u64 0, .int .u64 0] 30))
  have P1 := (P1.keep hb).keep ((Below.refl _ _).alloc (Nat.le_refl _) (.cells #[.int .u64 0, .int .u64 0, .int .u64 0, .int .u64 0, .int .u64 0, .int .u64 0, .int .u64 0, .int .u64 0] 30))
  have P2 := (P2.keep hb).keep ((Below.refl _ _).alloc (Nat.le_refl _) (.cells #[.int .u64 0, .int .u64 0, .int .u64 0, .int .u64 0, .int .u64 0, .int .u64 0, .int .u64 0, .int .u64 0] 30))
  have P3 := (P3.keep hb).keep ((Below.refl _ _).alloc (Nat.le_refl _) (.cells #[.int .u64 0, .int .u64 0, .int .u64 0, .int .u64 0, .int .u64 0, .int .u64 0, .int .u64 0, .int .u64 0] 30))
  have P4 := (P4.keep hb).keep ((Below.refl _ _).alloc (Nat.le_refl _) (.cells #[.int .u64 0, .int .u64 0, .int .u64 0, .int .u64 0, .int .u64 0, .int .u64 0, .int .u64 0, .int .u64 0] 30))
  have P5 := Ar8.new w6 w6.heap.size rfl 30 0 0 0 0 0 0 0 0
  have hB : Below w.heap.size w (w6.alloc (.cells #[.int .u64 0, .int .u64 0, .int .u64 0, .int .u64 0, .int .u64 0, .int .u64 0, .int .u64 0, .int .u64 0] 30)) := K.alloc (K.call hB hb) _
  clear hb
  have ⟨l0, c00, c01, c02, c03⟩ := P0
  have ⟨l1, c10, c11, c12, c13⟩ := P1
  have ⟨l2, c20, c21, c22, c23⟩ := P2
  have ⟨l3, c30, c31, c32, c33⟩ := P3
  have ⟨l4, c40, c41, c42, c43, c44, c45, c46, c47⟩ := P4
  have ⟨l5, c50, c51, c52, c53, c54, c55, c56, c57⟩ := P5
  go_wp2_with fail
  go_ret
  exact ⟨rfl, hB⟩

theorem takes_walk {v : Option Addr} {n cap : Nat} {f : Nat → Int} {w : World} (h : BytesAt w v n cap f) :
    Calls Try.prog 3 #[.slice v n cap] w fun e w' => e = .returned (.bool true) ∧ Below w.heap.size w w' := by

  by_cases hn : 100 < n
  · exact takes_long v n cap hn w
  rcases h.rd with rfl | ⟨b, o, rfl, hD⟩
  · exact takes_none v cap w
  · by_cases h32 : n = 32
    · subst h32; exact takes_32 h.le h.bd w hD
    · by_cases h64 : n = 64
      · subst h64; exact takes_64 h.le h.bd w hD
      · exact takes_other (by omega) h32 h64 w hD
end Go.Proofs.Ytnfgkflhanjjcaa
