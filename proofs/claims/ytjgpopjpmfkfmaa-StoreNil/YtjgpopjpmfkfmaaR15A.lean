/- Layer 15: the document's numbers in bytes, and its mark. -/
import Derived.Test.YtjgpopjpmfkfmaaL15A
import Derived.Test.YtjgpopjpmfkfmaaN14F
namespace Go.Proofs.Ytjgpopjpmfkfmaa
set_option maxRecDepth 100000
open Go.RowKit Go.Maps
attribute [local go_sem ↓] Go.wp_at_zero Go.wp_at_succ

def pn (f : Nat → Nat) : Nat → Nat
  | 0 => 0
  | i + 1 => pn f i + f i * 256 ^ i
theorem pn_lt {f : Nat → Nat} (h : ∀ i, f i < 256) : ∀ i, pn f i < 256 ^ i
  | 0 => Nat.one_pos
  | i + 1 => by
    have h1 := pn_lt h i
    have h2 := h i
    have h3 : f i * 256 ^ i ≤ 255 * 256 ^ i := Nat.mul_le_mul_right _ (by omega)
    show pn f i + f i * 256 ^ i < 256 ^ (i + 1)
    rw [Nat.pow_succ]
    omega
/-- The document's number of eight bytes: none above 2^30. -/
def numR (f : Nat → Nat) : Int := if num8 f ≤ 1073741824 then (num8 f : Int) else -1
theorem num8_high {f : Nat → Nat} {j : Nat} (h4 : 4 ≤ j) (h8 : j < 8) (hf : 0 < f j) : 4294967296 ≤ num8 f := by
  unfold num8
  have hc : j = 4 ∨ j = 5 ∨ j = 6 ∨ j = 7 := by omega
  rcases hc with rfl | rfl | rfl | rfl <;> omega
theorem num8_low {f : Nat → Nat} (h : ∀ j, 4 ≤ j → j < 8 → f j = 0) : num8 f = pn f 4 := by
  unfold num8
  rw [h 4 (by omega) (by omega), h 5 (by omega) (by omega), h 6 (by omega) (by omega), h 7 (by omega) (by omega)]
  simp only [pn, Nat.pow_zero, Nat.mul_one, Nat.pow_one, show (256 : Nat) ^ 2 = 65536 from rfl, show (256 : Nat) ^ 3 = 16777216 from rfl]
  omega
set_option maxRecDepth 100000 in
set_option maxHeartbeats 4000000 in
theorem number_any {w : World} {b o c : Nat} {f : Nat → Nat} (h : BA w (some ⟨b, o, none⟩) 8 f) : Calls Try.prog 40 #[.slice (some ⟨b, o, none⟩) 8 c] w fun e w' => e = .returned (.int .i64 (numR f)) ∧ w' = w := by
  have hl := h.lt
  have HC : Hid (∀ i, i < 8 → w.cell? ⟨b, o + i, none⟩ = some (.int .u8 ((f i : Nat) : Int))) := fun i hi => by
    rcases h.at_ with h0 | ⟨b', o', e, hr⟩
    · cases h0
    · cases e
      exact hr.c i hi
  have HL := hide hl
  clear h hl
  go_enter Try.func40, Try.ntmps40
  go_wp2_with fail
  go_loopg [3, 4, 5] 8 (fun g' s3 s4 s5 wr => ∃ i q : Nat, g' = 8 - i ∧ i ≤ 8 ∧ q = min i 4 ∧ s5 = .int .i64 (i : Int) ∧ s3 = .int .i64 (pn f q : Int) ∧ s4 = .int .i64 ((256 ^ q : Nat) : Int) ∧ wr = w ∧ Hid (∀ j, 4 ≤ j → j < i → f j = 0))
  case atStart => exact ⟨0, 0, rfl, by omega, rfl, rfl, rfl, rfl, rfl, fun j h1 h2 => by omega⟩
  case round =>
    obtain ⟨i, q, rfl, hi, hq, rfl, rfl, rfl, rfl, HZ⟩ := hrel
    by_cases hlt : i < 8
    · have hcell := HC.out i hlt
      have hlt' : (i : Int) < 8 := by omega
      by_cases h4 : i < 4
      · have hq' : q = i := by omega
        subst hq'
        clear hq
        have h3 : decide ((3 : Int) < (q : Int)) = false := decide_eq_false (by omega)
        have h4' : (q : Int) < 4 := by omega
        have hp := pn_lt HL.out q
        have hfi := HL.out q
        have hpw : 256 ^ q ≤ 16777216 := by
          have : (256 : Nat) ^ q ≤ 256 ^ 3 := Nat.pow_le_pow_right (by decide) (by omega)
          exact this
        have e1 : wrap64 ((f q : Int) * ((256 ^ q : Nat) : Int)) = ((f q * 256 ^ q : Nat) : Int) := by
          have h5 : f q * 256 ^ q ≤ 255 * 16777216 := Nat.mul_le_mul (by omega) hpw
          rw [← Int.natCast_mul]
          unfold wrap64
          omega
        have e2 : wrap64 ((pn f q : Int) + (f q : Int) * ((256 ^ q : Nat) : Int)) = (pn f (q + 1) : Int) := by
          rw [← Int.natCast_mul]
          have h5 : f q * 256 ^ q ≤ 255 * 16777216 := Nat.mul_le_mul (by omega) hpw
          show _ = ((pn f q + f q * 256 ^ q : Nat) : Int)
          unfold wrap64
          omega
        have e3 : wrap64 (((256 ^ q : Nat) : Int) * 256) = ((256 ^ (q + 1) : Nat) : Int) := by
          rw [Nat.pow_succ]
          unfold wrap64
          omega
        have e0 : wrap64 ((f q : Nat) : Int) = ((f q : Nat) : Int) := by unfold wrap64; omega
        clear hp hfi hpw
        obtain ⟨P, hP⟩ : ∃ P : Nat, P = 256 ^ q := ⟨_, rfl⟩
        rw [← hP] at e1 e2 e3
        rw [← hP]
        clear hP
        go_wp2_with fail
        go_roundg (8 - (q + 1))
        case measure => omega
        case rel => exact ⟨q + 1, q + 1, rfl, by omega, by omega, by simp, by simp [e2], by simp [e3], rfl, fun j h1 h2 => by omega⟩
      · have h3 : (3 : Int) < (i : Int) := by omega
        have h4' : decide ((i : Int) < 4) = false := decide_eq_false (by omega)
        obtain rfl : q = 4 := by omega
        clear hq
        by_cases hf : f i = 0
        · rw [hf] at hcell
          go_wp2_with fail
          go_roundg (8 - (i + 1))
          case measure => omega
          case rel => exact ⟨i + 1, 4, rfl, by omega, by omega, by simp, rfl, rfl, rfl, fun j h1 h2 => by
            by_cases e : j = i
            · subst e; exact hf
            · exact HZ.out j h1 (by omega)⟩
        · have hf' : (0 : Int) < ((f i : Nat) : Int) := by omega
          have HR : Hid (numR f = -1) := if_neg (by have := num8_high (f := f) (j := i) (by omega) hlt (by omega); omega)
          go_wp2_with fail
          go_ret
          exact ⟨by rw [HR.out]; rfl, rfl⟩
    · obtain rfl : i = 8 := by omega
      obtain rfl : q = 4 := by omega
      clear hq
      have HN := hide (num8_low (fun j h1 h2 => HZ.out j h1 h2))
      by_cases hb : pn f 4 ≤ 1073741824
      · have hb' : decide ((1073741824 : Int) < (pn f 4 : Int)) = false := decide_eq_false (by omega)
        have HR : Hid (numR f = (pn f 4 : Int)) := by show numR f = _; unfold numR; rw [HN.out, if_pos hb]
        go_wp2_with fail
        go_ret
        exact ⟨by rw [HR.out]; rfl, rfl⟩
      · have hb' : (1073741824 : Int) < (pn f 4 : Int) := by omega
        have HR : Hid (numR f = -1) := by show numR f = _; unfold numR; rw [HN.out, if_neg hb]
        go_wp2_with fail
        go_ret
        exact ⟨by rw [HR.out]; rfl, rfl⟩
/-- Bytes in a row that was made. -/
def OwP (w : World) (f : Nat → Nat) (m : Nat) (e : Ending) (w' : World) : Prop := ∃ z c, e = .returned (.slice z m c) ∧ w'.ownsRow w.heap.size 5 1 (.slice z m c) m (cells8 (fl f m)) ∧ Below w.heap.size w w'
structure OwR (w wr : World) (v : Value) (f : Nat → Nat) (j : Nat) : Prop where
  k : Below w.heap.size w wr
  o : wr.ownsRow w.heap.size 5 1 v j (cells8 (fl f j))
theorem OwR.step {w wr w1 : World} {v v' : Value} {f : Nat → Nat} {j : Nat} (h : OwR w wr v f j) {o : Obj} {x : Nat} (hx : x = f j) (ho : w1.ownsRow w.heap.size 5 1 v' (j + 1) (cells8 (fl f j ++ fl (fun _ => x) 1))) (hg : (wr.alloc o).grownBy w1 v.ownBlock) : OwR w w1 v' f (j + 1) := by
  refine ⟨below_append (K.alloc h.k o) (own_keep h.o (K.alloc (Below.refl _ _) _)) hg, ?_⟩
  rw [fl_succ]
  subst hx
  exact ho
set_option maxRecDepth 100000 in
set_option maxHeartbeats 4000000 in
theorem bytes_any (w : World) {n : Nat} (hn : n < 4611686018427387904) : Calls Try.prog 69 #[.int .i64 (n : Int)] w (OwP w (le8 n) 8) := by
  have HN := hide hn
  clear hn
  go_enter Try.func69, Try.ntmps69
  go_wp2_with fail
  go_loopg [0, 3, 4] 8 (fun g' s0 s3 s4 wr => ∃ i : Nat, g' = 8 - i ∧ i ≤ 8 ∧ s4 = .int .i64 (i : Int) ∧ s0 = .int .i64 ((n / 256 ^ i : Nat) : Int) ∧ OwR w wr s3 (le8 n) i)
  case atStart => exact ⟨0, rfl, by omega, rfl, by simp, ⟨Below.refl _ _, World.ownsRow_nil w _ _ _⟩⟩
  case round =>
    obtain ⟨i, rfl, hi, rfl, rfl, hR⟩ := hrel
    obtain ⟨p, cap, rfl, _, _⟩ := own_max hR.o
    have HR := hide hR
    clear hR
    by_cases hlt : i < 8
    · have hlt' : (i : Int) < 8 := by omega
      obtain ⟨q, hq⟩ : ∃ q, q = n / 256 ^ i := ⟨_, rfl⟩
      have hq2 : q < 4611686018427387904 := by rw [hq]; exact Nat.lt_of_le_of_lt (Nat.div_le_self _ _) HN.out
      obtain ⟨x, hx⟩ : ∃ x, x = q % 256 := ⟨_, rfl⟩
      have HX : Hid (x = le8 n i) := by show _ = n / 256 ^ i % 256; rw [hx, hq]
      have HQ : Hid (q / 256 = n / 256 ^ (i + 1)) := by show _ = _; rw [hq, Nat.div_div_eq_div_mul, Nat.pow_succ]
      rw [← hq]
      clear hq
      have hb : (q : Int) % 256 = (x : Int) := by omega
      have hx256 : x < 256 := by omega
      have hb2 : (x : Int) % 256 = (x : Int) := by omega
      clear hx
      go_upto_region 6 with (refine wpList_app (base := w.heap.size) rfl _ _ rfl rfl (own_keep HR.out.o (K.alloc (Below.refl _ _) _)) rfl (one_made wr x hx256) (by omega) (K.alloc HR.out.k _).size ?_; intro v1 w1 hO1 hg1; have HR1 := hide (HR.out.step HX.out hO1 hg1); clear hO1 hg1)
      go_wp2_with fail
      go_roundg (8 - (i + 1))
      case measure => omega
      case rel => exact ⟨i + 1, rfl, by omega, by simp, by rw [← HQ.out]; simp, HR1.out⟩
    · obtain rfl : i = 8 := by omega
      go_wp2_with fail
      go_ret
      exact ⟨p, cap, rfl, HR.out.o, HR.out.k⟩
theorem mark_fl (n u : Nat) : fl (le8 n) 8 ++ fl (le8 u) 8 = fl (mkf n u) 16 := by
  rw [fl_cat]
  exact fl_congr fun i _ => rfl
theorem short_bound {L : List (List Nat)} (hs : short L) (hn : L.length ≤ 1000000) : tks L < 4611686018427387904 := by
  have := tks_short hs
  omega
set_option maxRecDepth 100000 in
set_option maxHeartbeats 4000000 in
theorem mark_any {w : World} {z : Option Addr} {c : Nat} {L : List (List Nat)} (h : Vw w z L) (hs : short L) (hn : L.length ≤ 1000000) : Calls Try.prog 43 #[.slice z L.length c] w (OwP w (mkf L.length (tks L)) 16) := by
  have HV := hide h
  have HS := hide hs
  have HT := hide (short_bound hs hn)
  clear h hs
  go_enter Try.func43, Try.ntmps43
  go_wp2_with (first
    | (have hq := HO1.out; clear hq; go_at_call 69; refine Calls.mono (bytes_any _ HT.out) ?_; rintro e W2 ⟨z2, c2, rfl, hO2, hB2⟩; have HO2 := hide hO2; have HB2 := hide hB2; have HO12 := hide (own_keep HO1.out hB2); clear hO2 hB2)
    | (go_at_call 69; refine Calls.mono (bytes_any _ (by omega)) ?_; rintro e W1 ⟨z1, c1, rfl, hO1, hB1⟩; have HO1 := hide hO1; have HB1 := hide hB1; clear hO1 hB1)
    | (go_at_call 50; refine Calls.mono (all_any (HV.out.keep HB1.out) HS.out hn) ?_; rintro e W3 ⟨rfl, rfl⟩)
    | (refine wpList_app (base := w.heap.size) rfl _ _ rfl rfl HO12.out rfl (own_ba HO2.out (fun i => Nat.mod_lt _ (by decide))) (by omega) (K.call HB1.out HB2.out).size ?_; intro v3 W4 hO4 hg4; have HO4 := hide hO4; have HB4 := hide (below_append (K.call HB1.out HB2.out) HO12.out hg4); clear hO4 hg4))
  obtain ⟨z4, c4, e4, _, _⟩ := own_max HO4.out
  subst e4
  go_ret
  have ho := HO4.out
  rw [mark_fl] at ho
  exact ⟨z4, c4, rfl, ho, HB4.out⟩
end Go.Proofs.Ytjgpopjpmfkfmaa
