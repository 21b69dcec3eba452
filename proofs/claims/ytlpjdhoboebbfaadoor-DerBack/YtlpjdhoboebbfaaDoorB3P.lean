/- What the program's own PutBig and Big answer. -/
import Derived.Test.YtlpjdhoboebbfaaDoorB3
import Derived.OwnWalk
namespace Go.Proofs.YtlpjdhoboebbfaaDoor
open Go.RowKit
attribute [local go_sem ↓] Go.wp_at_zero Go.wp_at_succ

theorem rest8 (k : Nat) : k % 8 = 0 ∨ k % 8 = 1 ∨ k % 8 = 2 ∨ k % 8 = 3 ∨ k % 8 = 4 ∨ k % 8 = 5 ∨ k % 8 = 6 ∨ k % 8 = 7 := by omega

set_option maxHeartbeats 1000000 in
theorem drop_any (x : Int) (h0 : 0 ≤ x) (h1 : x < 18446744073709551616) (k : Nat) (hk : k < 64) (w : World) :
    Calls Tryd.prog 35 #[.int .u64 x, .int .i64 k] w fun e w' => e = .returned (.int .u8 (x / 256 ^ (k % 8) % 256)) ∧ w' = w := by
  rcases rest8 k with hr | hr | hr | hr | hr | hr | hr | hr
  all_goals
    rw [hr]
    have hri : (k : Int) % 8 = ((k % 8 : Nat) : Int) := by omega
    rw [hr] at hri
    clear hr
    go_enter Tryd.func35, Tryd.ntmps35
    go_wp2
    go_ret
    exact ⟨ret_int (by first | (simp; done) | (simp; omega)), rfl⟩

set_option maxHeartbeats 1000000 in
theorem lift_any (x : Int) (h0 : 0 ≤ x) (h1 : x < 256) (k : Nat) (hk : k < 64) (w : World) :
    Calls Tryd.prog 36 #[.int .u8 x, .int .i64 k] w fun e w' => e = .returned (.int .u64 (x * 256 ^ (k % 8))) ∧ w' = w := by
  rcases rest8 k with hr | hr | hr | hr | hr | hr | hr | hr
  all_goals
    rw [hr]
    have hri : (k : Int) % 8 = ((k % 8 : Nat) : Int) := by omega
    rw [hr] at hri
    clear hr
    go_enter Tryd.func36, Tryd.ntmps36
    go_wp2
    go_ret
    exact ⟨ret_int (by simp), rfl⟩
/-- A row that was made. -/
theorem row_made {w : World} {base b n : Nat} (h : w.ownsRow base 5 1 (.slice (some ⟨b, 0, none⟩) n n) n (madeCells (Value.int .u8 0).cells (n * 1)).toList) : Row8 w b n (fun _ => 0) := by
  have hlt := h.lt b rfl
  refine ⟨hlt.2, fun i hi => ?_, fun i _ => h.frozenAt i⟩
  rw [h.cellAt i (by omega), Nat.mul_one, show (Value.int .u8 0).cells = #[.int .u8 0] from rfl, toList_madeCells_one, List.getElem?_replicate, if_pos hi]
theorem Arr.set1 {W : World} {n b o : Nat} {y0 y1 y2 y3 : Int} {v : Value} (h : Arr W b y0 y1 y2 y3) (hn : b ≠ n) : Arr (W.setCell ⟨n, o, none⟩ v) b y0 y1 y2 y3 :=
  ⟨by have := h.lt; simpa using this, by simp [go_sem, h.c0], by simp [go_sem, h.c1], by simp [go_sem, h.c2], by simp [go_sem, h.c3]⟩
theorem size_alloc1 (w : World) (o : Obj) : (w.alloc o).heap.size = w.heap.size + 1 := by simp
theorem below_grown {w w0 w1 : World} (h : Below w.heap.size w w0) (hg : w0.grownBy w1 none) : Below w.heap.size w w1 :=
  h.grown hg h.size (fun k hk => by cases hk)

set_option maxHeartbeats 2000000 in
theorem putBig_any (a : Int) (w : World) :
    Calls Tryd.prog 31 #[.agg #[.int .u64 (L 0 a), .int .u64 (L 1 a), .int .u64 (L 2 a), .int .u64 (L 3 a)]] w fun e w' => e = .returned (.slice (some ⟨w.heap.size + 1, 0, none⟩) 32 32) ∧ Row8 w' (w.heap.size + 1) 32 (fun i => Y (31 - i) a) ∧ Below w.heap.size w w' := by
  obtain ⟨i0, hi, hz0, hz1, hz2⟩ := info_parts info8
  have hA0 := Arr.new w w.heap.size rfl 26 (L 0 a) (L 1 a) (L 2 a) (L 3 a)
  go_enter Tryd.func31, Tryd.ntmps31
  go_wp2_with (at_make; refine wpList_make_full _ rfl _ _ 22 rfl (w.heap.size + 1) 5 i0 (.int .u8 0) 1 Tryd.underlying22 hi hz0 hz1 .i64 .i64 32 32 32 rfl rfl rfl rfl (by rw [hz2]; decide) (by decide) (by simp) ?_; intro w1 hown hgrow)
  have hR1 : Row8 w1 (w.heap.size + 1) 32 (fun _ => 0) := by have h := row_made hown; rw [size_alloc1] at h; exact h
  have hB1 : Below w.heap.size w w1 := below_grown (K.alloc (Below.refl _ w) _) hgrow
  have hA1 := hA0.keep ((Below.refl _ _).grown hgrow (Nat.le_refl _) (fun k hk => by cases hk))
  clear hown hgrow hA0 hi hz0 hz1 hz2
  go_loopg [6] 32 (fun g s6 wr => ∃ k : Nat, g = 32 - k ∧ k ≤ 32 ∧ s6 = .int .i64 k ∧ Row8 wr (w.heap.size + 1) 32 (fun i => if 31 - i < k then Y (31 - i) a else 0) ∧ Arr wr w.heap.size (L 0 a) (L 1 a) (L 2 a) (L 3 a) ∧ Below w.heap.size w wr)
  case atStart => exact ⟨0, rfl, by omega, rfl, hR1.congr (fun i hi => by simp), hA1, hB1⟩
  case round =>
    clear hR1 hA1 hB1 w1
    obtain ⟨k, rfl, hk, rfl, hR, hA, hB⟩ := hrel
    by_cases hlt : k < 32
    · have HR : Hid (Row8 wr (w.heap.size + 1) 32 (fun i => if 31 - i < k then Y (31 - i) a else 0)) := hR
      have HA : Hid (Arr wr w.heap.size (L 0 a) (L 1 a) (L 2 a) (L 3 a)) := hA
      have HB : Hid (Below w.heap.size w wr) := hB
      have hcell := hR.c (31 - k) (by omega)
      have hfree := hR.z (31 - k) (by omega)
      have ⟨al, a0, a1, a2, a3⟩ := hA
      have hrl := hR.lt
      have hj : (31 : Int) - k = ((31 - k : Nat) : Int) := by omega
      have hq : (k : Int) / 8 = 0 ∨ (k : Int) / 8 = 1 ∨ (k : Int) / 8 = 2 ∨ (k : Int) / 8 = 3 := by omega
      clear hR hA hB
      rcases hq with hq | hq | hq | hq
      · have l1 := L_lo 0 a
        have l2 := L_hi 0 a
        go_wp2_with (go_at_call 35; with_reducible refine Calls.mono (drop_any (L 0 a) (by omega) (by omega) k (by omega) _) ?_; rintro e w' ⟨rfl, rfl⟩)
        go_roundg (32 - (k + 1))
        case measure => omega
        case rel => exact ⟨k + 1, rfl, by omega, by go_num, (HR.out.store (31 - k) (by omega) _).congr (fun i hi => by rw [byte_word a 0 (k % 8) (by omega), show 8 * 0 + k % 8 = k by omega]; (repeat' split) <;> first | rfl | (congr 1; omega) | omega), HA.out.set1 (by omega), K.set HB.out (by simp) _⟩
      · have l1 := L_lo 1 a
        have l2 := L_hi 1 a
        go_wp2_with (go_at_call 35; with_reducible refine Calls.mono (drop_any (L 1 a) (by omega) (by omega) k (by omega) _) ?_; rintro e w' ⟨rfl, rfl⟩)
        go_roundg (32 - (k + 1))
        case measure => omega
        case rel => exact ⟨k + 1, rfl, by omega, by go_num, (HR.out.store (31 - k) (by omega) _).congr (fun i hi => by rw [byte_word a 1 (k % 8) (by omega), show 8 * 1 + k % 8 = k by omega]; (repeat' split) <;> first | rfl | (congr 1; omega) | omega), HA.out.set1 (by omega), K.set HB.out (by simp) _⟩
      · have l1 := L_lo 2 a
        have l2 := L_hi 2 a
        go_wp2_with (go_at_call 35; with_reducible refine Calls.mono (drop_any (L 2 a) (by omega) (by omega) k (by omega) _) ?_; rintro e w' ⟨rfl, rfl⟩)
        go_roundg (32 - (k + 1))
        case measure => omega
        case rel => exact ⟨k + 1, rfl, by omega, by go_num, (HR.out.store (31 - k) (by omega) _).congr (fun i hi => by rw [byte_word a 2 (k % 8) (by omega), show 8 * 2 + k % 8 = k by omega]; (repeat' split) <;> first | rfl | (congr 1; omega) | omega), HA.out.set1 (by omega), K.set HB.out (by simp) _⟩
      · have l1 := L_lo 3 a
        have l2 := L_hi 3 a
        go_wp2_with (go_at_call 35; with_reducible refine Calls.mono (drop_any (L 3 a) (by omega) (by omega) k (by omega) _) ?_; rintro e w' ⟨rfl, rfl⟩)
        go_roundg (32 - (k + 1))
        case measure => omega
        case rel => exact ⟨k + 1, rfl, by omega, by go_num, (HR.out.store (31 - k) (by omega) _).congr (fun i hi => by rw [byte_word a 3 (k % 8) (by omega), show 8 * 3 + k % 8 = k by omega]; (repeat' split) <;> first | rfl | (congr 1; omega) | omega), HA.out.set1 (by omega), K.set HB.out (by simp) _⟩
    · go_wp2_with fail
      obtain rfl : k = 32 := by omega
      go_ret
      exact ⟨rfl, hR.congr (fun i hi => if_pos (by omega)), hB⟩
/-- A row of n words of its own, that may be written. -/
structure RowQ (w : World) (b n : Nat) (g : Nat → Int) : Prop where
  lt : b < w.heap.size
  c : ∀ i, i < n → w.cell? ⟨b, i, none⟩ = some (.int .u64 (g i))
  z : ∀ i, i < n → w.frozen? ⟨b, i, none⟩ = false
theorem RowQ.keep {W w1 : World} {b n : Nat} {g : Nat → Int} (h : RowQ W b n g) (hb : Below W.heap.size W w1) : RowQ w1 b n g :=
  ⟨Nat.lt_of_lt_of_le h.lt hb.size, fun i hi => later hb (h.c i hi), fun i hi => (hb.frozen (p := ⟨b, i, none⟩) h.lt).trans (h.z i hi)⟩
theorem RowQ.congr {w : World} {b n : Nat} {f g : Nat → Int} (h : RowQ w b n f) (e : ∀ i, i < n → f i = g i) : RowQ w b n g :=
  ⟨h.lt, fun i hi => by rw [← e i hi]; exact h.c i hi, h.z⟩
theorem RowQ.store {w : World} {b n : Nat} {f : Nat → Int} (h : RowQ w b n f) (k : Nat) (hk : k < n) (v : Int) : RowQ (w.setCell ⟨b, k, none⟩ (.int .u64 v)) b n (fun i => if i = k then v else f i) := by
  refine ⟨by simpa using h.lt, fun i hi => ?_, fun i hi => by rw [World.frozen?_setCell]; exact h.z i hi⟩
  have hc := h.c i hi
  have hcs := h.c k hk
  by_cases e : i = k
  · subst e; simp [go_sem, hc]
  · simp [go_sem, hc, e]
theorem RowQ.other {w : World} {b n m o : Nat} {f : Nat → Int} {v : Value} (h : RowQ w b n f) (hb : b ≠ m) : RowQ (w.setCell ⟨m, o, none⟩ v) b n f := by
  refine ⟨by simpa using h.lt, fun i hi => ?_, fun i hi => by rw [World.frozen?_setCell]; exact h.z i hi⟩
  have hc := h.c i hi
  simp [go_sem, hc]
theorem RowQ.drew {W : World} {b n : Nat} {g : Nat → Int} (h : RowQ W b n g) : RowQ W.drew b n g := h.keep (Below.refl _ _).drew
theorem RowQ.new4 (W : World) (b : Nat) (hb : b = W.heap.size) : RowQ (W.alloc (.cells #[.int .u64 0, .int .u64 0, .int .u64 0, .int .u64 0] 26)) b 4 (fun _ => 0) := by
  subst hb
  refine ⟨by simp, fun i hi => ?_, fun i hi => by simp [go_sem]⟩
  match i, hi with
  | 0, _ => simp [go_sem]
  | 1, _ => simp [go_sem]
  | 2, _ => simp [go_sem]
  | 3, _ => simp [go_sem]
theorem or_byte {x y : Int} {r : Nat} (hr : r < 8) (hx : 0 ≤ x) (hx2 : x < 256 ^ r) (hy : 0 ≤ y) (hy2 : y < 256) : bits .or .u64 x (y * 256 ^ r) = x + y * 256 ^ r := by
  have e : (256 : Int) ^ r = ((2 ^ (8 * r) : Nat) : Int) := by rw [Nat.pow_mul]; simp
  have h7 : (2 : Nat) ^ (8 * r) ≤ 2 ^ 56 := Nat.pow_le_pow_right (by omega) (by omega)
  rw [e] at hx2 ⊢
  obtain ⟨n, rfl⟩ := Int.eq_ofNat_of_zero_le hx
  obtain ⟨m, rfl⟩ := Int.eq_ofNat_of_zero_le hy
  have hn : n < 2 ^ (8 * r) := by omega
  have hm : m * 2 ^ (8 * r) ≤ 255 * 2 ^ 56 := Nat.mul_le_mul (by omega) h7
  have hmi : (m : Int) * ((2 ^ (8 * r) : Nat) : Int) = ((m * 2 ^ (8 * r) : Nat) : Int) := by simp
  rw [hmi]
  generalize hp : 2 ^ (8 * r) = p at *
  rw [u64_or _ _ (by omega) (by omega) (by omega) (by omega), Int.toNat_natCast, Int.toNat_natCast, Nat.or_comm, Nat.mul_comm, ← hp, ← Nat.two_pow_add_eq_or_of_lt (by omega)]
  omega
/-- The words of which k bytes are there. -/
def G (f : Nat → Int) (k j : Nat) : Int := E f (8 * j) (min 8 (k - 8 * j))
theorem G_zero (f : Nat → Int) (j : Nat) : G f 0 j = 0 := by unfold G; rw [show min 8 (0 - 8 * j) = 0 by omega]; rfl
theorem G_bd {f : Nat → Int} (hf : ∀ i, 0 ≤ f i ∧ f i < 256) (k j : Nat) : 0 ≤ G f k j ∧ G f k j < 18446744073709551616 := by
  have h := E_bd hf (8 * j) (min 8 (k - 8 * j))
  have h8 : (256 : Int) ^ min 8 (k - 8 * j) ≤ 256 ^ 8 := by
    have : (256 : Nat) ^ min 8 (k - 8 * j) ≤ 256 ^ 8 := Nat.pow_le_pow_right (by omega) (by omega)
    have h' := Int.ofNat_le.2 this
    rw [Int.natCast_pow, Int.natCast_pow] at h'
    exact h'
  exact ⟨h.1, Int.lt_of_lt_of_le h.2 (Int.le_trans h8 (by decide))⟩
theorem G_step {f : Nat → Int} (hf : ∀ i, 0 ≤ f i ∧ f i < 256) (k : Nat) : bits .or .u64 (G f k (k / 8)) (f k * 256 ^ (k % 8)) = G f (k + 1) (k / 8) := by
  have h := E_bd hf (8 * (k / 8)) (k % 8)
  unfold G
  rw [show min 8 (k - 8 * (k / 8)) = k % 8 by omega, show min 8 (k + 1 - 8 * (k / 8)) = k % 8 + 1 by omega, or_byte (by omega) h.1 h.2 (hf k).1 (hf k).2]
  simp only [E]
  rw [show 8 * (k / 8) + k % 8 = k by omega]
theorem G_other (f : Nat → Int) {k j : Nat} (h : j ≠ k / 8) : G f k j = G f (k + 1) j := by
  unfold G
  rw [show min 8 (k - 8 * j) = min 8 (k + 1 - 8 * j) by omega]
theorem word_step {g h : Nat → Int} {n q : Nat} {v : Int} (hv : v = h q) (ho : ∀ {i}, i ≠ q → g i = h i) : ∀ i, i < n → (if i = q then v else g i) = h i := by
  intro i _
  split
  · next e => rw [e]; exact hv
  · next e => exact ho e
theorem G_full (f : Nat → Int) {n j : Nat} (h : 8 * j + 8 ≤ n) : G f n j = E f (8 * j) 8 := by
  unfold G
  rw [show min 8 (n - 8 * j) = 8 by omega]
set_option maxHeartbeats 2000000 in
theorem big_not (v : Option Addr) (n cap : Nat) (h : n ≠ 32) (w : World) :
    Calls Tryd.prog 32 #[.slice v n cap] w fun e w' => e = .returned (.tuple #[.agg #[.int .u64 0, .int .u64 0, .int .u64 0, .int .u64 0], .bool false]) ∧ Below w.heap.size w w' := by
  have hb : ((n : Int) == 32) = false := beq_eq_false_iff_ne.2 (by omega)
  go_enter Tryd.func32, Tryd.ntmps32
  go_wp2
  exact bodyPost_ret (v := .tuple #[.agg #[.int .u64 0, .int .u64 0, .int .u64 0, .int .u64 0], .bool false]) (by simp [results, Tryd.results32, go_sem]) rfl ⟨rfl, by go_grown⟩

set_option maxHeartbeats 4000000 in
theorem big_any {b o cap : Nat} {f : Nat → Int} (hf : ∀ i, 0 ≤ f i ∧ f i < 256) {w : World} (hD : Rd w b o 32 f) :
    Calls Tryd.prog 32 #[.slice (some ⟨b, o, none⟩) 32 cap] w fun e w' => e = .returned (.tuple #[.agg #[.int .u64 (E (fun i => f (31 - i)) 0 8), .int .u64 (E (fun i => f (31 - i)) 8 8), .int .u64 (E (fun i => f (31 - i)) 16 8), .int .u64 (E (fun i => f (31 - i)) 24 8)], .bool true]) ∧ Below w.heap.size w w' := by
  have HF : Hid (∀ i, 0 ≤ f i ∧ f i < 256) := hf
  have HD : Hid (Rd w b o 32 f) := hD
  clear hf hD
  go_enter Tryd.func32, Tryd.ntmps32
  go_wp2_with fail
  go_loopg [10] 32 (fun g s wr => ∃ k : Nat, g = 32 - k ∧ k ≤ 32 ∧ s = .int .i64 k ∧ RowQ wr (w.heap.size + 1) 4 (G (fun i => f (31 - i)) k) ∧ RowQ wr w.heap.size 4 (fun _ => 0) ∧ Below w.heap.size w wr)
  case atStart => exact ⟨0, rfl, by omega, rfl, (RowQ.new4 _ _ (by simp)).congr (fun i _ => (G_zero _ i).symm), (RowQ.new4 w _ rfl).keep ((Below.refl _ _).alloc (Nat.le_refl _) _), K.alloc (K.alloc (Below.refl _ w) _) _⟩
  case round =>
    obtain ⟨k, rfl, hk, rfl, hR, hZ, hB⟩ := hrel
    by_cases hlt : k < 32
    · have hx := HF.out (31 - k)
      have hd := (HD.out.keep hB).c (31 - k) (by omega)
      have HR : Hid (RowQ wr (w.heap.size + 1) 4 (G (fun i => f (31 - i)) k)) := hR
      have HZ : Hid (RowQ wr w.heap.size 4 (fun _ => 0)) := hZ
      have HB : Hid (Below w.heap.size w wr) := hB
      have hrl := hR.lt
      obtain ⟨j, hjj⟩ : ∃ j, j = 31 - k := ⟨_, rfl⟩
      have HJ : Hid (j = 31 - k) := hjj
      have hj : (31 : Int) - k = (j : Int) := by omega
      have hw : IntKind.i64.wrap (j : Int) = (j : Int) := IntWalk.i64_in _ (by omega)
      have hj0 : (0 : Int) ≤ (j : Int) := by omega
      have hj1 : (j : Int) < 32 := by omega
      rw [← hjj] at hx hd
      clear hjj
      have hq : k / 8 = 0 ∨ k / 8 = 1 ∨ k / 8 = 2 ∨ k / 8 = 3 := by omega
      clear hR hZ hB
      rcases hq with hq | hq | hq | hq
      · have HQ : Hid (k / 8 = 0) := hq
        have hqi : (k : Int) / 8 = 0 := by omega
        have hg := G_bd (f := (fun i => f (31 - i))) (fun i => HF.out _) k 0
        have hc := HR.out.c 0 (by omega)
        have hz := HR.out.z 0 (by omega)
        clear hq
        go_upto_region 7 with fail
        apply wp_mono (Q := Only _ _)
        · go_region_with (go_at_call 36; with_reducible refine Calls.mono (lift_any (f j) hx.1 hx.2 k (by omega) _) ?_; rintro e w' ⟨rfl, rfl⟩)
          all_goals exact Only.intro _ _
        refine Only.out ?_
        have HG : Hid (bits .or .u64 (G (fun i => f (31 - i)) k 0) ((f j) * 256 ^ (k % 8)) = G (fun i => f (31 - i)) (k + 1) 0) := by have h := G_step (f := (fun i => f (31 - i))) (fun i => HF.out _) k; rw [HQ.out] at h; rw [HJ.out]; exact h
        clear hc hz hd hx hg
        go_wp2_with fail
        go_roundg (32 - (k + 1))
        case measure => omega
        case rel => exact ⟨k + 1, rfl, by omega, by go_num, ((HR.out.store 0 (by omega) _).congr (word_step HG.out (fun e => G_other _ (by rw [HQ.out]; exact e)))).drew, (HZ.out.other (by omega)).drew, K.drew (K.set HB.out (by simp) _)⟩
      · have HQ : Hid (k / 8 = 1) := hq
        have hqi : (k : Int) / 8 = 1 := by omega
        have hg := G_bd (f := (fun i => f (31 - i))) (fun i => HF.out _) k 1
        have hc := HR.out.c 1 (by omega)
        have hz := HR.out.z 1 (by omega)
        clear hq
        go_upto_region 7 with fail
        apply wp_mono (Q := Only _ _)
        · go_region_with (go_at_call 36; with_reducible refine Calls.mono (lift_any (f j) hx.1 hx.2 k (by omega) _) ?_; rintro e w' ⟨rfl, rfl⟩)
          all_goals exact Only.intro _ _
        refine Only.out ?_
        have HG : Hid (bits .or .u64 (G (fun i => f (31 - i)) k 1) ((f j) * 256 ^ (k % 8)) = G (fun i => f (31 - i)) (k + 1) 1) := by have h := G_step (f := (fun i => f (31 - i))) (fun i => HF.out _) k; rw [HQ.out] at h; rw [HJ.out]; exact h
        clear hc hz hd hx hg
        go_wp2_with fail
        go_roundg (32 - (k + 1))
        case measure => omega
        case rel => exact ⟨k + 1, rfl, by omega, by go_num, ((HR.out.store 1 (by omega) _).congr (word_step HG.out (fun e => G_other _ (by rw [HQ.out]; exact e)))).drew, (HZ.out.other (by omega)).drew, K.drew (K.set HB.out (by simp) _)⟩
      · have HQ : Hid (k / 8 = 2) := hq
        have hqi : (k : Int) / 8 = 2 := by omega
        have hg := G_bd (f := (fun i => f (31 - i))) (fun i => HF.out _) k 2
        have hc := HR.out.c 2 (by omega)
        have hz := HR.out.z 2 (by omega)
        clear hq
        go_upto_region 7 with fail
        apply wp_mono (Q := Only _ _)
        · go_region_with (go_at_call 36; with_reducible refine Calls.mono (lift_any (f j) hx.1 hx.2 k (by omega) _) ?_; rintro e w' ⟨rfl, rfl⟩)
          all_goals exact Only.intro _ _
        refine Only.out ?_
        have HG : Hid (bits .or .u64 (G (fun i => f (31 - i)) k 2) ((f j) * 256 ^ (k % 8)) = G (fun i => f (31 - i)) (k + 1) 2) := by have h := G_step (f := (fun i => f (31 - i))) (fun i => HF.out _) k; rw [HQ.out] at h; rw [HJ.out]; exact h
        clear hc hz hd hx hg
        go_wp2_with fail
        go_roundg (32 - (k + 1))
        case measure => omega
        case rel => exact ⟨k + 1, rfl, by omega, by go_num, ((HR.out.store 2 (by omega) _).congr (word_step HG.out (fun e => G_other _ (by rw [HQ.out]; exact e)))).drew, (HZ.out.other (by omega)).drew, K.drew (K.set HB.out (by simp) _)⟩
      · have HQ : Hid (k / 8 = 3) := hq
        have hqi : (k : Int) / 8 = 3 := by omega
        have hg := G_bd (f := (fun i => f (31 - i))) (fun i => HF.out _) k 3
        have hc := HR.out.c 3 (by omega)
        have hz := HR.out.z 3 (by omega)
        clear hq
        go_upto_region 7 with fail
        apply wp_mono (Q := Only _ _)
        · go_region_with (go_at_call 36; with_reducible refine Calls.mono (lift_any (f j) hx.1 hx.2 k (by omega) _) ?_; rintro e w' ⟨rfl, rfl⟩)
          all_goals exact Only.intro _ _
        refine Only.out ?_
        have HG : Hid (bits .or .u64 (G (fun i => f (31 - i)) k 3) ((f j) * 256 ^ (k % 8)) = G (fun i => f (31 - i)) (k + 1) 3) := by have h := G_step (f := (fun i => f (31 - i))) (fun i => HF.out _) k; rw [HQ.out] at h; rw [HJ.out]; exact h
        clear hc hz hd hx hg
        go_wp2_with fail
        go_roundg (32 - (k + 1))
        case measure => omega
        case rel => exact ⟨k + 1, rfl, by omega, by go_num, ((HR.out.store 3 (by omega) _).congr (word_step HG.out (fun e => G_other _ (by rw [HQ.out]; exact e)))).drew, (HZ.out.other (by omega)).drew, K.drew (K.set HB.out (by simp) _)⟩
    · obtain rfl : k = 32 := by omega
      have c0 := hR.c 0 (by omega)
      have c1 := hR.c 1 (by omega)
      have c2 := hR.c 2 (by omega)
      have c3 := hR.c 3 (by omega)
      have z0 := hZ.c 0 (by omega)
      have z1 := hZ.c 1 (by omega)
      have z2 := hZ.c 2 (by omega)
      have z3 := hZ.c 3 (by omega)
      have y0 := hZ.z 0 (by omega)
      have y1 := hZ.z 1 (by omega)
      have y2 := hZ.z 2 (by omega)
      have y3 := hZ.z 3 (by omega)
      have zl := hZ.lt
      have cl := hR.lt
      rw [G_full _ (show 8 * 0 + 8 ≤ 32 by omega)] at c0
      rw [G_full _ (show 8 * 1 + 8 ≤ 32 by omega)] at c1
      rw [G_full _ (show 8 * 2 + 8 ≤ 32 by omega)] at c2
      rw [G_full _ (show 8 * 3 + 8 ≤ 32 by omega)] at c3
      clear hR hZ
      go_wp2_with fail
      exact bodyPost_ret (v := .tuple #[.agg #[.int .u64 (E (fun i => f (31 - i)) 0 8), .int .u64 (E (fun i => f (31 - i)) 8 8), .int .u64 (E (fun i => f (31 - i)) 16 8), .int .u64 (E (fun i => f (31 - i)) 24 8)], .bool true]) (by simp [results, Tryd.results32, go_sem, z0, z1, z2, z3]) rfl ⟨rfl, K.set (K.set (K.set (K.set (hB) (by simp) _) (by simp) _) (by simp) _) (by simp) _⟩
end Go.Proofs.YtlpjdhoboebbfaaDoor
