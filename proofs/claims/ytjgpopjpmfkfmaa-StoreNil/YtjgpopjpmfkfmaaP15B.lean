/- Layer 15: the program's numbers in bytes. -/
import Derived.Test.YtjgpopjpmfkfmaaR15B
import Derived.Lib.EndianBits
import Derived.Laws.BitsAllLaws
namespace Go.Proofs.Ytjgpopjpmfkfmaa
open Go.RowKit Go.Maps
attribute [local go_sem ↓] Go.wp_at_zero Go.wp_at_succ

theorem takes_n {w : World} {m : Nat} (hm : m ≤ 1000000000) : Calls Try.prog 46 #[.int .i64 (m : Int)] w fun e w' => e = .returned (.int .i64 (tk m : Int)) ∧ w' = w := by
  have h1 : wrap64 ((m : Int) + 2) = (m : Int) + 2 := w_id (by omega) (by omega)
  have h2 : wrap64 ((m : Int) + 2 + 64) = (m : Int) + 2 + 64 := w_id (by omega) (by omega)
  have h3 : wrap64 ((m : Int) + 2 + 64 - 1) = (m : Int) + 2 + 64 - 1 := w_id (by omega) (by omega)
  go_enter Try.func46, Try.ntmps46
  go_wp2_with fail
  go_ret
  exact ⟨ret_int (by unfold tk; omega), rfl⟩
theorem or_byte {x y : Int} {r : Nat} (hr : r < 8) (hx : 0 ≤ x) (hx2 : x < 256 ^ r) (hy : 0 ≤ y) (hy2 : y < 256) : bits .or .u64 x (y * 256 ^ r) = x + y * 256 ^ r := by
  have e : (256 : Int) ^ r = ((2 ^ (8 * r) : Nat) : Int) := by rw [Nat.pow_mul]; simp
  have h7 : (2 : Nat) ^ (8 * r) ≤ 2 ^ 56 := Nat.pow_le_pow_right (by omega) (by omega)
  rw [e] at hx2 ⊢
  obtain ⟨n, rfl⟩ := Int.eq_ofNat_of_zero_le hx
  obtain ⟨m, rfl⟩ := Int.eq_ofNat_of_zero_le hy
  have hn : n < 2 ^ (8 * r) := by omega
  have hm : m * 2 ^ (8 * r) ≤ 255 * 2 ^ 56 := Nat.mul_le_mul (by omega) h7
  have hmi : (m : Int) * ((2 ^ (8 * r) : Nat) : Int) = ((m * 2 ^ (8 * r) : Nat) : Int) := by simp
  rw [hmi]
  generalize hp : 2 ^ (8 * r) = p at *
  rw [u64_or _ _ (by omega) (by omega) (by omega) (by omega), Int.toNat_natCast, Int.toNat_natCast, Nat.or_comm, Nat.mul_comm, ← hp, ← Nat.two_pow_add_eq_or_of_lt (by omega)]
  omega
theorem pn_step {f : Nat → Nat} (h : ∀ i, f i < 256) {i : Nat} (hi : i < 8) : bits .or .u64 (pn f i : Int) (IntKind.u64.wrap (IntKind.u64.wrap (f i : Int) * 2 ^ (8 * i))) = (pn f (i + 1) : Int) := by
  have h1 := h i
  have h2 := pn_lt h i
  have e : (2 : Int) ^ (8 * i) = 256 ^ i := by rw [Int.pow_mul]; rfl
  have hc : (256 : Int) ^ i = ((256 ^ i : Nat) : Int) := by simp
  have h7 : (256 : Nat) ^ i ≤ 256 ^ 7 := Nat.pow_le_pow_right (by omega) (by omega)
  have hm : f i * 256 ^ i ≤ 255 * 256 ^ 7 := Nat.mul_le_mul (by omega) h7
  have hmi : (f i : Int) * ((256 ^ i : Nat) : Int) = ((f i * 256 ^ i : Nat) : Int) := by simp
  rw [u64_wrap_id (x := (f i : Int)) (by omega) (by omega), e, u64_wrap_id (x := (f i : Int) * 256 ^ i) (by rw [hc, hmi]; omega) (by rw [hc, hmi]; omega), or_byte hi (by omega) (by rw [hc]; omega) (by omega) (by omega)]
  show _ = ((pn f i + f i * 256 ^ i : Nat) : Int)
  simp
set_option maxRecDepth 100000 in
set_option maxHeartbeats 4000000 in
theorem little_n {w : World} {b o m c : Nat} {f : Nat → Nat} (h : BA w (some ⟨b, o, none⟩) m f) (hm : m ≤ 8) (h0 : 0 < m) : Calls Try.prog 66 #[.slice (some ⟨b, o, none⟩) m c] w fun e w' => e = .returned (.int .u64 (pn f m : Int)) ∧ w' = w := by
  have hl := h.lt
  have HC : Hid (∀ i, i < m → w.cell? ⟨b, o + i, none⟩ = some (.int .u8 ((f i : Nat) : Int))) := fun i hi => by
    rcases h.at_ with h1 | ⟨b', o', e, hr⟩
    · omega
    · cases e
      exact hr.c i hi
  have HL := hide hl
  clear h hl
  go_enter Try.func66, Try.ntmps66
  go_wp2_with fail
  go_loopg [3, 8] m (fun g' s3 s8 wr => ∃ i : Nat, g' = m - i ∧ i ≤ m ∧ s8 = .int .i64 (i : Int) ∧ s3 = .int .u64 (pn f i : Int) ∧ wr = w)
  case atStart => exact ⟨0, rfl, by omega, rfl, rfl, rfl⟩
  case round =>
    obtain ⟨i, rfl, hi, rfl, rfl, rfl⟩ := hrel
    by_cases hlt : i < m
    · have hcell := HC.out i hlt
      have hlt' : (i : Int) < (m : Int) := by omega
      have h8 : wrap64 (8 * (i : Int)) = 8 * (i : Int) := w_id (by omega) (by omega)
      have HP := hide (pn_step HL.out (i := i) (by omega))
      go_wp2_with fail
      go_roundg (m - (i + 1))
      case measure => omega
      case rel => exact ⟨i + 1, rfl, by omega, by simp, by rw [HP.out], rfl⟩
    · obtain rfl : i = m := by omega
      go_wp2_with fail
      go_ret
      exact ⟨rfl, rfl⟩
/-- Bytes in a block that may be written. -/
structure Rw (w : World) (g n : Nat) (f : Nat → Nat) : Prop where
  c : ∀ i, i < n → w.cell? ⟨g, i, none⟩ = some (.int .u8 ((f i : Nat) : Int))
  z : ∀ i, i < n → w.frozen? ⟨g, i, none⟩ = false
  l : ∀ i, f i < 256
theorem Rw.congr {w : World} {g n : Nat} {f h : Nat → Nat} (r : Rw w g n f) (e : ∀ i, i < n → f i = h i) (hl : ∀ i, h i < 256) : Rw w g n h := ⟨fun i hi => by rw [← e i hi]; exact r.c i hi, r.z, hl⟩
theorem Rw.ba {w : World} {g n : Nat} {f : Nat → Nat} (r : Rw w g n f) {o m : Nat} (h : o + m ≤ n) : BA w (some ⟨g, o, none⟩) m (fun i => f (o + i)) := by
  refine ⟨fun i => r.l _, Or.inr ⟨g, o, rfl, ⟨fun i hi => r.c _ (by omega)⟩⟩⟩
theorem Rw.rng {w : World} {g n : Nat} {f : Nat → Nat} (r : Rw w g n f) {m : Nat} (h : m ≤ n) : w.rangeAt g 0 (cells8 (fl f m)) := fun j v hv => by
  have hj : j < m := by
    have := (List.getElem?_eq_some_iff.1 hv).1
    rw [cells8_len, fl_len] at this
    exact this
  rw [cells8_at _ j (by rw [fl_len]; exact hj)] at hv
  cases hv
  rw [Nat.zero_add, r.c j (by omega)]
  rw [List.getD_eq_getElem?_getD, fl_at f hj]
  rfl
theorem Rw.put {w : World} {g n : Nat} {f : Nat → Nat} (r : Rw w g n f) {i x : Nat} (hx : x < 256) : Rw (w.setCell ⟨g, i, none⟩ (.int .u8 (x : Int))) g n (fun j => if j = i then x else f j) := by
  refine ⟨fun j hj => ?_, fun j hj => by rw [World.frozen?_setCell]; exact r.z j hj, fun j => ?_⟩
  · by_cases e : j = i
    · subst e
      rw [if_pos rfl]
      exact World.cell?_setCell_same' _ _ _ (by rw [r.c j hj]; rfl)
    · rw [if_neg e, World.cell?_setCell_other]
      · exact r.c j hj
      · intro h
        cases h
        exact e rfl
  · show (if j = i then x else f j) < 256
    split
    · exact hx
    · exact r.l j
theorem Rw.kp {X : Nat → Bool} {w w' : World} {g n : Nat} {f : Nat → Nat} (r : Rw w g n f) (hK : Kp X w w') (hg : g < w.heap.size) (hx : X g = false) : Rw w' g n f := by
  have e := hK.block g hg hx
  exact ⟨fun i hi => (World.cell?_of_block (w := w) e).trans (r.c i hi), fun i hi => (World.frozen?_of_block (w := w) e).trans (r.z i hi), r.l⟩
theorem Rw.keep {w w' : World} {g n : Nat} {f : Nat → Nat} (r : Rw w g n f) (hB : Below w.heap.size w w') (hg : g < w.heap.size) : Rw w' g n f := by
  have e := hB.block g hg
  exact ⟨fun i hi => (World.cell?_of_block (w := w) e).trans (r.c i hi), fun i hi => (World.frozen?_of_block (w := w) e).trans (r.z i hi), r.l⟩
/-- Some bytes put anew. -/
def pt (f : Nat → Nat) (o m : Nat) (h : Nat → Nat) (i : Nat) : Nat := if o ≤ i ∧ i < o + m then h (i - o) else f i
theorem pt_succ (f : Nat → Nat) (o m : Nat) (h : Nat → Nat) (i : Nat) : (if i = o + m then h m else pt f o m h i) = pt f o (m + 1) h i := by
  unfold pt
  by_cases e : i = o + m
  · subst e
    rw [if_pos rfl, if_pos (by omega), Nat.add_sub_cancel_left]
  · rw [if_neg e]
    by_cases e2 : o ≤ i ∧ i < o + m
    · rw [if_pos e2, if_pos (by omega)]
    · rw [if_neg e2, if_neg (by omega)]
theorem pt_lt {f h : Nat → Nat} (hf : ∀ i, f i < 256) (hh : ∀ i, h i < 256) {o m : Nat} (i : Nat) : pt f o m h i < 256 := by
  unfold pt
  split
  · exact hh _
  · exact hf _
theorem le8_lt (n i : Nat) : le8 n i < 256 := Nat.mod_lt _ (by decide)
theorem shr_byte (n i : Nat) : (n : Int) / 2 ^ (8 * i) % 256 = (le8 n i : Int) := by
  have e : (2 : Int) ^ (8 * i) = ((256 ^ i : Nat) : Int) := by rw [Int.pow_mul]; simp
  rw [e]
  unfold le8
  omega
abbrev X1 (g k : Nat) : Bool := Nat.beq k g
theorem X1_of (g : Nat) : X1 g g = true := Nat.beq_refl g
theorem X1_not {g k : Nat} (h : k ≠ g) : X1 g k = false := by
  cases e : X1 g k with
  | false => rfl
  | true => exact absurd (Nat.eq_of_beq_eq_true e) h
theorem kp_1 {w : World} {g o : Nat} (v : Value) : Kp (X1 g) w (w.setCell ⟨g, o, none⟩ v) := (Kp.refl _ w).setCell (p := ⟨g, o, none⟩) (Or.inr (X1_of g)) v
set_option maxRecDepth 100000 in
set_option maxHeartbeats 4000000 in
theorem putl_n {w : World} {g N o m c n : Nat} {f : Nat → Nat} (h : Rw w g N f) (ho : o + m ≤ N) (hm : m ≤ 8) (hn : n < 9223372036854775808) : Calls Try.prog 78 #[.slice (some ⟨g, o, none⟩) m c, .int .i64 (n : Int)] w fun e w' => (∃ v, e = .returned v) ∧ Rw w' g N (pt f o m (le8 n)) ∧ Kp (X1 g) w w' := by
  have HR := hide h
  clear h
  go_enter Try.func78, Try.ntmps78
  go_wp2_with fail
  go_loopg [7] m (fun g' s7 wr => ∃ i : Nat, g' = m - i ∧ i ≤ m ∧ s7 = .int .i64 (i : Int) ∧ Hid (Rw wr g N (pt f o i (le8 n)) ∧ Kp (X1 g) w wr))
  case atStart => exact ⟨0, rfl, by omega, rfl, HR.out.congr (fun i _ => (if_neg (by omega)).symm) (fun i => by unfold pt; rw [if_neg (by omega)]; exact HR.out.l i), Kp.refl _ _⟩
  case round =>
    obtain ⟨i, rfl, hi, rfl, HI⟩ := hrel
    by_cases hlt : i < m
    · have hcell := HI.out.1.c (o + i) (by omega)
      have hfz := HI.out.1.z (o + i) (by omega)
      have hlt' : (i : Int) < (m : Int) := by omega
      have h8 : wrap64 (8 * (i : Int)) = 8 * (i : Int) := w_id (by omega) (by omega)
      have HS := hide (shr_byte n i)
      go_wp2_with fail
      go_roundg (m - (i + 1))
      case measure => omega
      case rel => exact ⟨i + 1, rfl, by omega, by simp, by rw [HS.out]; exact (HI.out.1.put (le8_lt n i)).congr (fun j _ => pt_succ _ _ _ _ j) (pt_lt HR.out.l (le8_lt n)), by rw [HS.out]; exact HI.out.2.trans (kp_1 _)⟩
    · obtain rfl : i = m := by omega
      go_wp2_with fail
      go_end0
      exact ⟨⟨_, rfl⟩, HI.out⟩
end Go.Proofs.Ytjgpopjpmfkfmaa
