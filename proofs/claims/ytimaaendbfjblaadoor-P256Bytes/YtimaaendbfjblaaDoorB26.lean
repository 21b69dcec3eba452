/- What the program's own PutBig and Big answer. What the program's own Decode answers. What the program's own Encode answers. P256Bytes. How the parameters, and the table of the moduli, are read before the call. How a point of two numbers and a truth is read before the call, and behind it. How points and bytes are read before the call. -/
import Derived.Test.YtimaaendbfjblaaDoorB23
import Derived.Test.YtimaaendbfjblaaDoorB24
import Derived.Test.YtimaaendbfjblaaDoorB22
import Derived.Test.YtimaaendbfjblaaDoorB25
import Derived.Test.YtimaaendbfjblaaDoorB15
import Derived.OwnWalk
import Derived.Test.YtimaaendbfjblaaDoorTie
import Derived.Test.YtimaaendbfjblaaDoorCards
import Derived.ProofKit
import Derived.LaidMore
import Derived.MakeChecks
import Derived.Lib.LaidTab
import Derived.Stop.LaidErr
import Derived.Laws.IdiomArrays
import Derived.OpenShut
import Derived.Stop.Joined
import Derived.Carry
namespace Go.Proofs.YtimaaendbfjblaaDoor
open Go.RowKit
attribute [local go_sem ↓] Go.wp_at_zero Go.wp_at_succ

theorem rest8 (k : Nat) : k % 8 = 0 ∨ k % 8 = 1 ∨ k % 8 = 2 ∨ k % 8 = 3 ∨ k % 8 = 4 ∨ k % 8 = 5 ∨ k % 8 = 6 ∨ k % 8 = 7 := by omega

set_option maxHeartbeats 1000000 in
theorem drop_any (x : Int) (h0 : 0 ≤ x) (h1 : x < 18446744073709551616) (k : Nat) (hk : k < 64) (w : World) :
    Calls Tryd.prog 71 #[.int .u64 x, .int .i64 k] w fun e w' => e = .returned (.int .u8 (x / 256 ^ (k % 8) % 256)) ∧ w' = w := by
  rcases rest8 k with hr | hr | hr | hr | hr | hr | hr | hr
  all_goals
    rw [hr]
    have hri : (k : Int) % 8 = ((k % 8 : Nat) : Int) := by omega
    rw [hr] at hri
    clear hr
    go_enter Tryd.func71, Tryd.ntmps71
    go_wp2
    go_ret
    exact ⟨ret_int (by first | (simp; done) | (simp; omega)), rfl⟩

set_option maxHeartbeats 1000000 in
theorem lift_any (x : Int) (h0 : 0 ≤ x) (h1 : x < 256) (k : Nat) (hk : k < 64) (w : World) :
    Calls Tryd.prog 68 #[.int .u8 x, .int .i64 k] w fun e w' => e = .returned (.int .u64 (x * 256 ^ (k % 8))) ∧ w' = w := by
  rcases rest8 k with hr | hr | hr | hr | hr | hr | hr | hr
  all_goals
    rw [hr]
    have hri : (k : Int) % 8 = ((k % 8 : Nat) : Int) := by omega
    rw [hr] at hri
    clear hr
    go_enter Tryd.func68, Tryd.ntmps68
    go_wp2
    go_ret
    exact ⟨ret_int (by simp), rfl⟩
/-- A row that was made. -/
theorem row_made {w : World} {base b n : Nat} (h : w.ownsRow base 5 1 (.slice (some ⟨b, 0, none⟩) n n) n (madeCells (Value.int .u8 0).cells (n * 1)).toList) : Row8 w b n (fun _ => 0) := by
  have hlt := h.lt b rfl
  refine ⟨hlt.2, fun i hi => ?_, fun i _ => h.frozenAt i⟩
  rw [h.cellAt i (by omega), Nat.mul_one, show (Value.int .u8 0).cells = #[.int .u8 0] from rfl, toList_madeCells_one, List.getElem?_replicate, if_pos hi]
theorem Arr.set1 {W : World} {n b o : Nat} {y0 y1 y2 y3 : Int} {v : Value} (h : Arr W b y0 y1 y2 y3) (hn : b ≠ n) : Arr (W.setCell ⟨n, o, none⟩ v) b y0 y1 y2 y3 :=
  ⟨by have := h.lt; simpa using this, by simp [go_sem, h.c0], by simp [go_sem, h.c1], by simp [go_sem, h.c2], by simp [go_sem, h.c3]⟩
theorem size_alloc1 (w : World) (o : Obj) : (w.alloc o).heap.size = w.heap.size + 1 := by simp
theorem below_grown {w w0 w1 : World} (h : Below w.heap.size w w0) (hg : w0.grownBy w1 none) : Below w.heap.size w w1 :=
  h.grown hg h.size (fun k hk => by cases hk)

set_option maxHeartbeats 2000000 in
theorem putBig_any (a : Int) (w : World) :
    Calls Tryd.prog 52 #[.agg #[.int .u64 (L 0 a), .int .u64 (L 1 a), .int .u64 (L 2 a), .int .u64 (L 3 a)]] w fun e w' => e = .returned (.slice (some ⟨w.heap.size + 1, 0, none⟩) 32 32) ∧ Row8 w' (w.heap.size + 1) 32 (fun i => Y (31 - i) a) ∧ Below w.heap.size w w' := by
  obtain ⟨i0, hi, hz0, hz1, hz2⟩ := info_parts info8
  have hA0 := Arr.new w w.heap.size rfl 24 (L 0 a) (L 1 a) (L 2 a) (L 3 a)
  go_enter Tryd.func52, Tryd.ntmps52
  go_wp2_with (at_make; refine wpList_make_full _ rfl _ _ 43 rfl (w.heap.size + 1) 5 i0 (.int .u8 0) 1 Tryd.underlying43 hi hz0 hz1 .i64 .i64 32 32 32 rfl rfl rfl rfl (by rw [hz2]; decide) (by decide) (by simp) ?_; intro w1 hown hgrow)
  have hR1 : Row8 w1 (w.heap.size + 1) 32 (fun _ => 0) := by have h := row_made hown; rw [size_alloc1] at h; exact h
  have hB1 : Below w.heap.size w w1 := below_grown (K.alloc (Below.refl _ w) _) hgrow
  have hA1 := hA0.keep ((Below.refl _ _).grown hgrow (Nat.le_refl _) (fun k hk => by cases hk))
  clear hown hgrow hA0 hi hz0 hz1 hz2
  go_loopg [6] 32 (fun g s6 wr => ∃ k : Nat, g = 32 - k ∧ k ≤ 32 ∧ s6 = .int .i64 k ∧ Row8 wr (w.heap.size + 1) 32 (fun i => if 31 - i < k then Y (31 - i) a else 0) ∧ Arr wr w.heap.size (L 0 a) (L 1 a) (L 2 a) (L 3 a) ∧ Below w.heap.size w wr)
  case atStart => exact ⟨0, rfl, by omega, rfl, hR1.congr (fun i hi => by simp), hA1, hB1⟩
  case round =>
    clear hR1 hA1 hB1 w1
    obtain ⟨k, rfl, hk, rfl, hR, hA, hB⟩ := hrel
    by_cases hlt : k < 32
    · have HR : Hid (Row8 wr (w.heap.size + 1) 32 (fun i => if 31 - i < k then Y (31 - i) a else 0)) := hR
      have HA : Hid (Arr wr w.heap.size (L 0 a) (L 1 a) (L 2 a) (L 3 a)) := hA
      have HB : Hid (Below w.heap.size w wr) := hB
      have hcell := hR.c (31 - k) (by omega)
      have hfree := hR.z (31 - k) (by omega)
      have ⟨al, a0, a1, a2, a3⟩ := hA
      have hrl := hR.lt
      have hj : (31 : Int) - k = ((31 - k : Nat) : Int) := by omega
      have hq : (k : Int) / 8 = 0 ∨ (k : Int) / 8 = 1 ∨ (k : Int) / 8 = 2 ∨ (k : Int) / 8 = 3 := by omega
      clear hR hA hB
      rcases hq with hq | hq | hq | hq
      · have l1 := L_lo 0 a
        have l2 := L_hi 0 a
        go_wp2_with (go_at_call 71; with_reducible refine Calls.mono (drop_any (L 0 a) (by omega) (by omega) k (by omega) _) ?_; rintro e w' ⟨rfl, rfl⟩)
        go_roundg (32 - (k + 1))
        case measure => omega
        case rel => exact ⟨k + 1, rfl, by omega, by go_num, (HR.out.store (31 - k) (by omega) _).congr (fun i hi => by rw [byte_word a 0 (k % 8) (by omega), show 8 * 0 + k % 8 = k by omega]; (repeat' split) <;> first | rfl | (congr 1; omega) | omega), HA.out.set1 (by omega), K.set HB.out (by simp) _⟩
      · have l1 := L_lo 1 a
        have l2 := L_hi 1 a
        go_wp2_with (go_at_call 71; with_reducible refine Calls.mono (drop_any (L 1 a) (by omega) (by omega) k (by omega) _) ?_; rintro e w' ⟨rfl, rfl⟩)
        go_roundg (32 - (k + 1))
        case measure => omega
        case rel => exact ⟨k + 1, rfl, by omega, by go_num, (HR.out.store (31 - k) (by omega) _).congr (fun i hi => by rw [byte_word a 1 (k % 8) (by omega), show 8 * 1 + k % 8 = k by omega]; (repeat' split) <;> first | rfl | (congr 1; omega) | omega), HA.out.set1 (by omega), K.set HB.out (by simp) _⟩
      · have l1 := L_lo 2 a
        have l2 := L_hi 2 a
        go_wp2_with (go_at_call 71; with_reducible refine Calls.mono (drop_any (L 2 a) (by omega) (by omega) k (by omega) _) ?_; rintro e w' ⟨rfl, rfl⟩)
        go_roundg (32 - (k + 1))
        case measure => omega
        case rel => exact ⟨k + 1, rfl, by omega, by go_num, (HR.out.store (31 - k) (by omega) _).congr (fun i hi => by rw [byte_word a 2 (k % 8) (by omega), show 8 * 2 + k % 8 = k by omega]; (repeat' split) <;> first | rfl | (congr 1; omega) | omega), HA.out.set1 (by omega), K.set HB.out (by simp) _⟩
      · have l1 := L_lo 3 a
        have l2 := L_hi 3 a
        go_wp2_with (go_at_call 71; with_reducible refine Calls.mono (drop_any (L 3 a) (by omega) (by omega) k (by omega) _) ?_; rintro e w' ⟨rfl, rfl⟩)
        go_roundg (32 - (k + 1))
        case measure => omega
        case rel => exact ⟨k + 1, rfl, by omega, by go_num, (HR.out.store (31 - k) (by omega) _).congr (fun i hi => by rw [byte_word a 3 (k % 8) (by omega), show 8 * 3 + k % 8 = k by omega]; (repeat' split) <;> first | rfl | (congr 1; omega) | omega), HA.out.set1 (by omega), K.set HB.out (by simp) _⟩
    · go_wp2_with fail
      obtain rfl : k = 32 := by omega
      go_ret
      exact ⟨rfl, hR.congr (fun i hi => if_pos (by omega)), hB⟩
/-- A row of n words of its own, that may be written. -/
structure RowQ (w : World) (b n : Nat) (g : Nat → Int) : Prop where
  lt : b < w.heap.size
  c : ∀ i, i < n → w.cell? ⟨b, i, none⟩ = some (.int .u64 (g i))
  z : ∀ i, i < n → w.frozen? ⟨b, i, none⟩ = false
theorem RowQ.keep {W w1 : World} {b n : Nat} {g : Nat → Int} (h : RowQ W b n g) (hb : Below W.heap.size W w1) : RowQ w1 b n g :=
  ⟨Nat.lt_of_lt_of_le h.lt hb.size, fun i hi => later hb (h.c i hi), fun i hi => (hb.frozen (p := ⟨b, i, none⟩) h.lt).trans (h.z i hi)⟩
theorem RowQ.congr {w : World} {b n : Nat} {f g : Nat → Int} (h : RowQ w b n f) (e : ∀ i, i < n → f i = g i) : RowQ w b n g :=
  ⟨h.lt, fun i hi => by rw [← e i hi]; exact h.c i hi, h.z⟩
theorem RowQ.store {w : World} {b n : Nat} {f : Nat → Int} (h : RowQ w b n f) (k : Nat) (hk : k < n) (v : Int) : RowQ (w.setCell ⟨b, k, none⟩ (.int .u64 v)) b n (fun i => if i = k then v else f i) := by
  refine ⟨by simpa using h.lt, fun i hi => ?_, fun i hi => by rw [World.frozen?_setCell]; exact h.z i hi⟩
  have hc := h.c i hi
  have hcs := h.c k hk
  by_cases e : i = k
  · subst e; simp [go_sem, hc]
  · simp [go_sem, hc, e]
theorem RowQ.other {w : World} {b n m o : Nat} {f : Nat → Int} {v : Value} (h : RowQ w b n f) (hb : b ≠ m) : RowQ (w.setCell ⟨m, o, none⟩ v) b n f := by
  refine ⟨by simpa using h.lt, fun i hi => ?_, fun i hi => by rw [World.frozen?_setCell]; exact h.z i hi⟩
  have hc := h.c i hi
  simp [go_sem, hc]
theorem RowQ.drew {W : World} {b n : Nat} {g : Nat → Int} (h : RowQ W b n g) : RowQ W.drew b n g := h.keep (Below.refl _ _).drew
theorem RowQ.new4 (W : World) (b : Nat) (hb : b = W.heap.size) : RowQ (W.alloc (.cells #[.int .u64 0, .int .u64 0, .int .u64 0, .int .u64 0] 24)) b 4 (fun _ => 0) := by
  subst hb
  refine ⟨by simp, fun i hi => ?_, fun i hi => by simp [go_sem]⟩
  match i, hi with
  | 0, _ => simp [go_sem]
  | 1, _ => simp [go_sem]
  | 2, _ => simp [go_sem]
  | 3, _ => simp [go_sem]
theorem or_byte {x y : Int} {r : Nat} (hr : r < 8) (hx : 0 ≤ x) (hx2 : x < 256 ^ r) (hy : 0 ≤ y) (hy2 : y < 256) : bits .or .u64 x (y * 256 ^ r) = x + y * 256 ^ r := by
  have e : (256 : Int) ^ r = ((2 ^ (8 * r) : Nat) : Int) := by rw [Nat.pow_mul]; simp
  have h7 : (2 : Nat) ^ (8 * r) ≤ 2 ^ 56 := Nat.pow_le_pow_right (by omega) (by omega)
  rw [e] at hx2 ⊢
  obtain ⟨n, rfl⟩ := Int.eq_ofNat_of_zero_le hx
  obtain ⟨m, rfl⟩ := Int.eq_ofNat_of_zero_le hy
  have hn : n < 2 ^ (8 * r) := by omega
  have hm : m * 2 ^ (8 * r) ≤ 255 * 2 ^ 56 := Nat.mul_le_mul (by omega) h7
  have hmi : (m : Int) * ((2 ^ (8 * r) : Nat) : Int) = ((m * 2 ^ (8 * r) : Nat) : Int) := by simp
  rw [hmi]
  generalize hp : 2 ^ (8 * r) = p at *
  rw [u64_or _ _ (by omega) (by omega) (by omega) (by omega), Int.toNat_natCast, Int.toNat_natCast, Nat.or_comm, Nat.mul_comm, ← hp, ← Nat.two_pow_add_eq_or_of_lt (by omega)]
  omega
/-- The words of which k bytes are there. -/
def G (f : Nat → Int) (k j : Nat) : Int := E f (8 * j) (min 8 (k - 8 * j))
theorem G_zero (f : Nat → Int) (j : Nat) : G f 0 j = 0 := by unfold G; rw [show min 8 (0 - 8 * j) = 0 by omega]; rfl
theorem G_bd {f : Nat → Int} (hf : ∀ i, 0 ≤ f i ∧ f i < 256) (k j : Nat) : 0 ≤ G f k j ∧ G f k j < 18446744073709551616 := by
  have h := E_bd hf (8 * j) (min 8 (k - 8 * j))
  have h8 : (256 : Int) ^ min 8 (k - 8 * j) ≤ 256 ^ 8 := by
    have : (256 : Nat) ^ min 8 (k - 8 * j) ≤ 256 ^ 8 := Nat.pow_le_pow_right (by omega) (by omega)
    have h' := Int.ofNat_le.2 this
    rw [Int.natCast_pow, Int.natCast_pow] at h'
    exact h'
  exact ⟨h.1, Int.lt_of_lt_of_le h.2 (Int.le_trans h8 (by decide))⟩
theorem G_step {f : Nat → Int} (hf : ∀ i, 0 ≤ f i ∧ f i < 256) (k : Nat) : bits .or .u64 (G f k (k / 8)) (f k * 256 ^ (k % 8)) = G f (k + 1) (k / 8) := by
  have h := E_bd hf (8 * (k / 8)) (k % 8)
  unfold G
  rw [show min 8 (k - 8 * (k / 8)) = k % 8 by omega, show min 8 (k + 1 - 8 * (k / 8)) = k % 8 + 1 by omega, or_byte (by omega) h.1 h.2 (hf k).1 (hf k).2]
  simp only [E]
  rw [show 8 * (k / 8) + k % 8 = k by omega]
theorem G_other (f : Nat → Int) {k j : Nat} (h : j ≠ k / 8) : G f k j = G f (k + 1) j := by
  unfold G
  rw [show min 8 (k - 8 * j) = min 8 (k + 1 - 8 * j) by omega]
theorem word_step {g h : Nat → Int} {n q : Nat} {v : Int} (hv : v = h q) (ho : ∀ {i}, i ≠ q → g i = h i) : ∀ i, i < n → (if i = q then v else g i) = h i := by
  intro i _
  split
  · next e => rw [e]; exact hv
  · next e => exact ho e
theorem G_full (f : Nat → Int) {n j : Nat} (h : 8 * j + 8 ≤ n) : G f n j = E f (8 * j) 8 := by
  unfold G
  rw [show min 8 (n - 8 * j) = 8 by omega]
set_option maxHeartbeats 2000000 in
theorem big_not (v : Option Addr) (n cap : Nat) (h : n ≠ 32) (w : World) :
    Calls Tryd.prog 50 #[.slice v n cap] w fun e w' => e = .returned (.tuple #[.agg #[.int .u64 0, .int .u64 0, .int .u64 0, .int .u64 0], .bool false]) ∧ Below w.heap.size w w' := by
  have hb : ((n : Int) == 32) = false := beq_eq_false_iff_ne.2 (by omega)
  go_enter Tryd.func50, Tryd.ntmps50
  go_wp2
  exact bodyPost_ret (v := .tuple #[.agg #[.int .u64 0, .int .u64 0, .int .u64 0, .int .u64 0], .bool false]) (by simp [results, Tryd.results50, go_sem]) rfl ⟨rfl, by go_grown⟩

set_option maxHeartbeats 4000000 in
theorem big_any {b o cap : Nat} {f : Nat → Int} (hf : ∀ i, 0 ≤ f i ∧ f i < 256) {w : World} (hD : Rd w b o 32 f) :
    Calls Tryd.prog 50 #[.slice (some ⟨b, o, none⟩) 32 cap] w fun e w' => e = .returned (.tuple #[.agg #[.int .u64 (E (fun i => f (31 - i)) 0 8), .int .u64 (E (fun i => f (31 - i)) 8 8), .int .u64 (E (fun i => f (31 - i)) 16 8), .int .u64 (E (fun i => f (31 - i)) 24 8)], .bool true]) ∧ Below w.heap.size w w' := by
  have HF : Hid (∀ i, 0 ≤ f i ∧ f i < 256) := hf
  have HD : Hid (Rd w b o 32 f) := hD
  clear hf hD
  go_enter Tryd.func50, Tryd.ntmps50
  go_wp2_with fail
  go_loopg [10] 32 (fun g s wr => ∃ k : Nat, g = 32 - k ∧ k ≤ 32 ∧ s = .int .i64 k ∧ RowQ wr (w.heap.size + 1) 4 (G (fun i => f (31 - i)) k) ∧ RowQ wr w.heap.size 4 (fun _ => 0) ∧ Below w.heap.size w wr)
  case atStart => exact ⟨0, rfl, by omega, rfl, (RowQ.new4 _ _ (by simp)).congr (fun i _ => (G_zero _ i).symm), (RowQ.new4 w _ rfl).keep ((Below.refl _ _).alloc (Nat.le_refl _) _), K.alloc (K.alloc (Below.refl _ w) _) _⟩
  case round =>
    obtain ⟨k, rfl, hk, rfl, hR, hZ, hB⟩ := hrel
    by_cases hlt : k < 32
    · have hx := HF.out (31 - k)
      have hd := (HD.out.keep hB).c (31 - k) (by omega)
      have HR : Hid (RowQ wr (w.heap.size + 1) 4 (G (fun i => f (31 - i)) k)) := hR
      have HZ : Hid (RowQ wr w.heap.size 4 (fun _ => 0)) := hZ
      have HB : Hid (Below w.heap.size w wr) := hB
      have hrl := hR.lt
      obtain ⟨j, hjj⟩ : ∃ j, j = 31 - k := ⟨_, rfl⟩
      have HJ : Hid (j = 31 - k) := hjj
      have hj : (31 : Int) - k = (j : Int) := by omega
      have hw : IntKind.i64.wrap (j : Int) = (j : Int) := IntWalk.i64_in _ (by omega)
      have hj0 : (0 : Int) ≤ (j : Int) := by omega
      have hj1 : (j : Int) < 32 := by omega
      rw [← hjj] at hx hd
      clear hjj
      have hq : k / 8 = 0 ∨ k / 8 = 1 ∨ k / 8 = 2 ∨ k / 8 = 3 := by omega
      clear hR hZ hB
      rcases hq with hq | hq | hq | hq
      · have HQ : Hid (k / 8 = 0) := hq
        have hqi : (k : Int) / 8 = 0 := by omega
        have hg := G_bd (f := (fun i => f (31 - i))) (fun i => HF.out _) k 0
        have hc := HR.out.c 0 (by omega)
        have hz := HR.out.z 0 (by omega)
        clear hq
        go_upto_region 7 with fail
        apply wp_mono (Q := Only _ _)
        · go_region_with (go_at_call 68; with_reducible refine Calls.mono (lift_any (f j) hx.1 hx.2 k (by omega) _) ?_; rintro e w' ⟨rfl, rfl⟩)
          all_goals exact Only.intro _ _
        refine Only.out ?_
        have HG : Hid (bits .or .u64 (G (fun i => f (31 - i)) k 0) ((f j) * 256 ^ (k % 8)) = G (fun i => f (31 - i)) (k + 1) 0) := by have h := G_step (f := (fun i => f (31 - i))) (fun i => HF.out _) k; rw [HQ.out] at h; rw [HJ.out]; exact h
        clear hc hz hd hx hg
        go_wp2_with fail
        go_roundg (32 - (k + 1))
        case measure => omega
        case rel => exact ⟨k + 1, rfl, by omega, by go_num, ((HR.out.store 0 (by omega) _).congr (word_step HG.out (fun e => G_other _ (by rw [HQ.out]; exact e)))).drew, (HZ.out.other (by omega)).drew, K.drew (K.set HB.out (by simp) _)⟩
      · have HQ : Hid (k / 8 = 1) := hq
        have hqi : (k : Int) / 8 = 1 := by omega
        have hg := G_bd (f := (fun i => f (31 - i))) (fun i => HF.out _) k 1
        have hc := HR.out.c 1 (by omega)
        have hz := HR.out.z 1 (by omega)
        clear hq
        go_upto_region 7 with fail
        apply wp_mono (Q := Only _ _)
        · go_region_with (go_at_call 68; with_reducible refine Calls.mono (lift_any (f j) hx.1 hx.2 k (by omega) _) ?_; rintro e w' ⟨rfl, rfl⟩)
          all_goals exact Only.intro _ _
        refine Only.out ?_
        have HG : Hid (bits .or .u64 (G (fun i => f (31 - i)) k 1) ((f j) * 256 ^ (k % 8)) = G (fun i => f (31 - i)) (k + 1) 1) := by have h := G_step (f := (fun i => f (31 - i))) (fun i => HF.out _) k; rw [HQ.out] at h; rw [HJ.out]; exact h
        clear hc hz hd hx hg
        go_wp2_with fail
        go_roundg (32 - (k + 1))
        case measure => omega
        case rel => exact ⟨k + 1, rfl, by omega, by go_num, ((HR.out.store 1 (by omega) _).congr (word_step HG.out (fun e => G_other _ (by rw [HQ.out]; exact e)))).drew, (HZ.out.other (by omega)).drew, K.drew (K.set HB.out (by simp) _)⟩
      · have HQ : Hid (k / 8 = 2) := hq
        have hqi : (k : Int) / 8 = 2 := by omega
        have hg := G_bd (f := (fun i => f (31 - i))) (fun i => HF.out _) k 2
        have hc := HR.out.c 2 (by omega)
        have hz := HR.out.z 2 (by omega)
        clear hq
        go_upto_region 7 with fail
        apply wp_mono (Q := Only _ _)
        · go_region_with (go_at_call 68; with_reducible refine Calls.mono (lift_any (f j) hx.1 hx.2 k (by omega) _) ?_; rintro e w' ⟨rfl, rfl⟩)
          all_goals exact Only.intro _ _
        refine Only.out ?_
        have HG : Hid (bits .or .u64 (G (fun i => f (31 - i)) k 2) ((f j) * 256 ^ (k % 8)) = G (fun i => f (31 - i)) (k + 1) 2) := by have h := G_step (f := (fun i => f (31 - i))) (fun i => HF.out _) k; rw [HQ.out] at h; rw [HJ.out]; exact h
        clear hc hz hd hx hg
        go_wp2_with fail
        go_roundg (32 - (k + 1))
        case measure => omega
        case rel => exact ⟨k + 1, rfl, by omega, by go_num, ((HR.out.store 2 (by omega) _).congr (word_step HG.out (fun e => G_other _ (by rw [HQ.out]; exact e)))).drew, (HZ.out.other (by omega)).drew, K.drew (K.set HB.out (by simp) _)⟩
      · have HQ : Hid (k / 8 = 3) := hq
        have hqi : (k : Int) / 8 = 3 := by omega
        have hg := G_bd (f := (fun i => f (31 - i))) (fun i => HF.out _) k 3
        have hc := HR.out.c 3 (by omega)
        have hz := HR.out.z 3 (by omega)
        clear hq
        go_upto_region 7 with fail
        apply wp_mono (Q := Only _ _)
        · go_region_with (go_at_call 68; with_reducible refine Calls.mono (lift_any (f j) hx.1 hx.2 k (by omega) _) ?_; rintro e w' ⟨rfl, rfl⟩)
          all_goals exact Only.intro _ _
        refine Only.out ?_
        have HG : Hid (bits .or .u64 (G (fun i => f (31 - i)) k 3) ((f j) * 256 ^ (k % 8)) = G (fun i => f (31 - i)) (k + 1) 3) := by have h := G_step (f := (fun i => f (31 - i))) (fun i => HF.out _) k; rw [HQ.out] at h; rw [HJ.out]; exact h
        clear hc hz hd hx hg
        go_wp2_with fail
        go_roundg (32 - (k + 1))
        case measure => omega
        case rel => exact ⟨k + 1, rfl, by omega, by go_num, ((HR.out.store 3 (by omega) _).congr (word_step HG.out (fun e => G_other _ (by rw [HQ.out]; exact e)))).drew, (HZ.out.other (by omega)).drew, K.drew (K.set HB.out (by simp) _)⟩
    · obtain rfl : k = 32 := by omega
      have c0 := hR.c 0 (by omega)
      have c1 := hR.c 1 (by omega)
      have c2 := hR.c 2 (by omega)
      have c3 := hR.c 3 (by omega)
      have z0 := hZ.c 0 (by omega)
      have z1 := hZ.c 1 (by omega)
      have z2 := hZ.c 2 (by omega)
      have z3 := hZ.c 3 (by omega)
      have y0 := hZ.z 0 (by omega)
      have y1 := hZ.z 1 (by omega)
      have y2 := hZ.z 2 (by omega)
      have y3 := hZ.z 3 (by omega)
      have zl := hZ.lt
      have cl := hR.lt
      rw [G_full _ (show 8 * 0 + 8 ≤ 32 by omega)] at c0
      rw [G_full _ (show 8 * 1 + 8 ≤ 32 by omega)] at c1
      rw [G_full _ (show 8 * 2 + 8 ≤ 32 by omega)] at c2
      rw [G_full _ (show 8 * 3 + 8 ≤ 32 by omega)] at c3
      clear hR hZ
      go_wp2_with fail
      exact bodyPost_ret (v := .tuple #[.agg #[.int .u64 (E (fun i => f (31 - i)) 0 8), .int .u64 (E (fun i => f (31 - i)) 8 8), .int .u64 (E (fun i => f (31 - i)) 16 8), .int .u64 (E (fun i => f (31 - i)) 24 8)], .bool true]) (by simp [results, Tryd.results50, go_sem, z0, z1, z2, z3]) rfl ⟨rfl, K.set (K.set (K.set (K.set (hB) (by simp) _) (by simp) _) (by simp) _) (by simp) _⟩
end Go.Proofs.YtimaaendbfjblaaDoor
namespace Go.Proofs.YtimaaendbfjblaaDoor
open Go.RowKit

theorem cE50 (vs : List Value) : ∀ w, (callFunc 50 vs.toArray).run Tryd.prog w = .ok (.enter 50 vs.toArray) w := callFunc_enter Tryd.func50 (by kernel_rfl) (by kernel_rfl) _
theorem q_Big {w : World} {a : Option Addr} {c : Nat} {f : Nat → Nat} (hb : BA w a 32 f) {u : Int} (hu : BN f 0 u) : Calls Tryd.prog 50 [.slice a 32 c].toArray w fun e w' => e = .returned (.tuple [.agg (nc u).toArray, .bool true].toArray) ∧ Below w.heap.size w w' := by
  rcases hb.at_ with h0 | ⟨b, o, rfl, hr⟩
  · omega
  have h := big_any (cap := c) (fun i => ⟨by omega, by have := hb.lt i; omega⟩) hr
  have e : ∀ o, o + 8 ≤ 32 → E (fun i => ((f (31 - i) : Nat) : Int)) o 8 = E (fun i => Y i u) o 8 := fun o ho => E_congr o 8 (fun i hi => by
    rw [hu.at_ _ (by omega), Nat.zero_add])
  have w4 := E_words u
  rw [e 0 (by omega), e 8 (by omega), e 16 (by omega), e 24 (by omega), w4.1, w4.2.1, w4.2.2.1, w4.2.2.2] at h
  exact h
set_option maxRecDepth 100000 in
set_option maxHeartbeats 4000000 in
theorem q_dec_A {w : World} {b o c : Nat} {f : Nat → Nat} (hrd : Rd w b o 1 (fun i => ((f i : Nat) : Int))) (h0 : f 0 = 0) : Calls Tryd.prog 22 [Value.slice (some ⟨b, o, none⟩) (1) (c)].toArray w fun e w' => e = .returned (.tuple [.agg (nz ++ nz ++ [Value.bool true]).toArray, .bool true].toArray) ∧ Below w.heap.size w w' := by
  refine enter (args := [Value.slice (some ⟨b, o, none⟩) (1) (c)]) Tryd.func22 rfl 47 rfl (lk rfl) (fun a h => ?_)
  refine go_region h hm [eN 2 (nz ++ nz ++ [Value.bool false]), eS 3 (.val (Value.bool false))] (by kernel_rfl) ⟨
    fun L u => u_alloc u (gd0 rfl) 26 rfl 2 rfl rfl z26 _ rfl,
    fun L u => u_move u (gd0 rfl) 3 rfl (.const (.bool false)) (Or.inr rfl) rfl,
    trivial⟩ [(0, .val (Value.slice (some ⟨b, o, none⟩) (1) (c))), (2, .ptr 2 0)] [(2, nz ++ nz ++ [Value.bool false])] ⟨rfl, rfl, trivial⟩ ⟨rfl, trivial⟩ rfl (fun a w h => ?_)
  refine wp_seq ?_
  refine go_region h hm [eS 9 (.val (Value.slice (some ⟨b, o, none⟩) (1) (c))), eS 10 (.val (Value.int .i64 ((1 : Nat) : Int))), eS 11 (.val (Value.bool true))] (by kernel_rfl) ⟨
    fun L u => u_move u (gd0 rfl) 9 rfl (.tmp 0) (Or.inl rfl) rfl,
    fun L u => u_lenV u (gd0 rfl) 10 rfl (.tmp 9) 43 rfl rfl Tryd.underlying43,
    fun L u => u_bin u (gd0 rfl) 11 rfl .eql 3 3 (.tmp 10) (.const (.int .i64 1)) rfl rfl rfl (eqg_int _ _ _ _ _ _ _ _) (Value.bool true) (yes_of (fun w => i_eql _ _ _ _ w) (by omega)),
    trivial⟩ [(0, .val (Value.slice (some ⟨b, o, none⟩) (1) (c))), (2, .ptr 2 0), (11, .val (Value.bool true))] [(2, nz ++ nz ++ [Value.bool false])] ⟨rfl, rfl, rfl, trivial⟩ ⟨rfl, trivial⟩ rfl (fun a w h => ?_)
  refine go_cond h true rfl (fun ht => ?_) (fun hf => ?_)
  case refine_2 => cases hf
  refine go_region h hm [eS 12 (.val (.agg (nz ++ nz ++ [Value.bool true]).toArray)), eS 13 (.val (Value.slice (some ⟨b, o, none⟩) (1) (c))), eS 14 (.val (Value.pointer (some ⟨b, o + 0, none⟩))), eS 15 (.val (Value.int .u8 ((f 0 : Nat) : Int))), eS 16 (.val (Value.bool true)), eM 2 (nz ++ nz ++ [Value.bool true]), eS 3 (.val (Value.bool true))] (by kernel_rfl) ⟨
    fun L u => u_call u (gd0 rfl) 12 rfl 28 #[] #[] rfl [] rfl (cE28 _) (.agg (nz ++ nz ++ [Value.bool true]).toArray) (fun w hb => q_neutral),
    fun L u => u_move u (gd0 rfl) 13 rfl (.tmp 0) (Or.inl rfl) rfl,
    fun L u => u_atX u (gd0 rfl) 14 rfl 43 (.tmp 13) (.const (.int .i64 0)) rfl rfl (k := 0) rfl Tryd.underlying43 i5 (by omega) (o + 0) rfl,
    fun L u => u_loadX u (gd0 rfl) 15 rfl 5 (.tmp 14) rfl rfl Tryd.underlying5 rfl (Value.int .u8 ((f 0 : Nat) : Int)) (hrd.c 0 (by omega)) rfl,
    fun L u => u_bin u (gd0 rfl) 16 rfl .eql 5 5 (.tmp 15) (.const (.int .u8 0)) rfl rfl rfl (eqg_int _ _ _ _ _ _ _ _) (Value.bool true) (yes_of (fun w => i_eql _ _ _ _ w) (by omega)),
    fun L u => u_store u (gd0 rfl) 26 (.tmp 2) (.tmp 12) rfl rfl rfl (vs := nz ++ nz ++ [Value.bool true]) rfl rfl i26 (lk rfl) rfl _ rfl,
    fun L u => u_move u (gd0 rfl) 3 rfl (.tmp 16) (Or.inr rfl) rfl,
    trivial⟩ [(2, .ptr 2 0), (3, .val (Value.bool true))] [(2, nz ++ nz ++ [Value.bool true])] ⟨rfl, rfl, trivial⟩ ⟨rfl, trivial⟩ rfl (fun a w h => ?_)
  refine wp_ret ?_
  refine then_ret ?_
  refine ret_two h _ _ rfl (ans_row (cs := nz ++ nz ++ [Value.bool true]) 2 (lk rfl) 26 rfl rfl Tryd.underlying26 rfl i26) (ans_tmp (v := Value.bool true) 3 (lk rfl) rfl) ?_
  exact ⟨rfl, h.grows⟩
set_option maxRecDepth 100000 in
set_option maxHeartbeats 4000000 in
theorem q_dec_B {w : World} {b o c : Nat} {f : Nat → Nat} (hrd : Rd w b o 1 (fun i => ((f i : Nat) : Int))) (h0 : f 0 ≠ 0) : Calls Tryd.prog 22 [Value.slice (some ⟨b, o, none⟩) (1) (c)].toArray w fun e w' => e = .returned (.tuple [.agg (nz ++ nz ++ [Value.bool true]).toArray, .bool false].toArray) ∧ Below w.heap.size w w' := by
  refine enter (args := [Value.slice (some ⟨b, o, none⟩) (1) (c)]) Tryd.func22 rfl 47 rfl (lk rfl) (fun a h => ?_)
  refine go_region h hm [eN 2 (nz ++ nz ++ [Value.bool false]), eS 3 (.val (Value.bool false))] (by kernel_rfl) ⟨
    fun L u => u_alloc u (gd0 rfl) 26 rfl 2 rfl rfl z26 _ rfl,
    fun L u => u_move u (gd0 rfl) 3 rfl (.const (.bool false)) (Or.inr rfl) rfl,
    trivial⟩ [(0, .val (Value.slice (some ⟨b, o, none⟩) (1) (c))), (2, .ptr 2 0)] [(2, nz ++ nz ++ [Value.bool false])] ⟨rfl, rfl, trivial⟩ ⟨rfl, trivial⟩ rfl (fun a w h => ?_)
  refine wp_seq ?_
  refine go_region h hm [eS 9 (.val (Value.slice (some ⟨b, o, none⟩) (1) (c))), eS 10 (.val (Value.int .i64 ((1 : Nat) : Int))), eS 11 (.val (Value.bool true))] (by kernel_rfl) ⟨
    fun L u => u_move u (gd0 rfl) 9 rfl (.tmp 0) (Or.inl rfl) rfl,
    fun L u => u_lenV u (gd0 rfl) 10 rfl (.tmp 9) 43 rfl rfl Tryd.underlying43,
    fun L u => u_bin u (gd0 rfl) 11 rfl .eql 3 3 (.tmp 10) (.const (.int .i64 1)) rfl rfl rfl (eqg_int _ _ _ _ _ _ _ _) (Value.bool true) (yes_of (fun w => i_eql _ _ _ _ w) (by omega)),
    trivial⟩ [(0, .val (Value.slice (some ⟨b, o, none⟩) (1) (c))), (2, .ptr 2 0), (11, .val (Value.bool true))] [(2, nz ++ nz ++ [Value.bool false])] ⟨rfl, rfl, rfl, trivial⟩ ⟨rfl, trivial⟩ rfl (fun a w h => ?_)
  refine go_cond h true rfl (fun ht => ?_) (fun hf => ?_)
  case refine_2 => cases hf
  refine go_region h hm [eS 12 (.val (.agg (nz ++ nz ++ [Value.bool true]).toArray)), eS 13 (.val (Value.slice (some ⟨b, o, none⟩) (1) (c))), eS 14 (.val (Value.pointer (some ⟨b, o + 0, none⟩))), eS 15 (.val (Value.int .u8 ((f 0 : Nat) : Int))), eS 16 (.val (Value.bool false)), eM 2 (nz ++ nz ++ [Value.bool true]), eS 3 (.val (Value.bool false))] (by kernel_rfl) ⟨
    fun L u => u_call u (gd0 rfl) 12 rfl 28 #[] #[] rfl [] rfl (cE28 _) (.agg (nz ++ nz ++ [Value.bool true]).toArray) (fun w hb => q_neutral),
    fun L u => u_move u (gd0 rfl) 13 rfl (.tmp 0) (Or.inl rfl) rfl,
    fun L u => u_atX u (gd0 rfl) 14 rfl 43 (.tmp 13) (.const (.int .i64 0)) rfl rfl (k := 0) rfl Tryd.underlying43 i5 (by omega) (o + 0) rfl,
    fun L u => u_loadX u (gd0 rfl) 15 rfl 5 (.tmp 14) rfl rfl Tryd.underlying5 rfl (Value.int .u8 ((f 0 : Nat) : Int)) (hrd.c 0 (by omega)) rfl,
    fun L u => u_bin u (gd0 rfl) 16 rfl .eql 5 5 (.tmp 15) (.const (.int .u8 0)) rfl rfl rfl (eqg_int _ _ _ _ _ _ _ _) (Value.bool false) (no_of (fun w => i_eql _ _ _ _ w) (by omega)),
    fun L u => u_store u (gd0 rfl) 26 (.tmp 2) (.tmp 12) rfl rfl rfl (vs := nz ++ nz ++ [Value.bool true]) rfl rfl i26 (lk rfl) rfl _ rfl,
    fun L u => u_move u (gd0 rfl) 3 rfl (.tmp 16) (Or.inr rfl) rfl,
    trivial⟩ [(2, .ptr 2 0), (3, .val (Value.bool false))] [(2, nz ++ nz ++ [Value.bool true])] ⟨rfl, rfl, trivial⟩ ⟨rfl, trivial⟩ rfl (fun a w h => ?_)
  refine wp_ret ?_
  refine then_ret ?_
  refine ret_two h _ _ rfl (ans_row (cs := nz ++ nz ++ [Value.bool true]) 2 (lk rfl) 26 rfl rfl Tryd.underlying26 rfl i26) (ans_tmp (v := Value.bool false) 3 (lk rfl) rfl) ?_
  exact ⟨rfl, h.grows⟩
set_option maxRecDepth 100000 in
set_option maxHeartbeats 4000000 in
theorem q_dec_C {w : World} {A : Option Addr} {n c : Nat} (h1 : n ≠ 1) (h65 : n ≠ 65) : Calls Tryd.prog 22 [Value.slice (A) (n) (c)].toArray w fun e w' => e = .returned (.tuple [.agg (nz ++ nz ++ [Value.bool true]).toArray, .bool false].toArray) ∧ Below w.heap.size w w' := by
  refine enter (args := [Value.slice (A) (n) (c)]) Tryd.func22 rfl 47 rfl (lk rfl) (fun a h => ?_)
  refine go_region h hm [eN 2 (nz ++ nz ++ [Value.bool false]), eS 3 (.val (Value.bool false))] (by kernel_rfl) ⟨
    fun L u => u_alloc u (gd0 rfl) 26 rfl 2 rfl rfl z26 _ rfl,
    fun L u => u_move u (gd0 rfl) 3 rfl (.const (.bool false)) (Or.inr rfl) rfl,
    trivial⟩ [(0, .val (Value.slice (A) (n) (c))), (2, .ptr 2 0)] [(2, nz ++ nz ++ [Value.bool false])] ⟨rfl, rfl, trivial⟩ ⟨rfl, trivial⟩ rfl (fun a w h => ?_)
  refine wp_seq ?_
  refine go_region h hm [eS 9 (.val (Value.slice (A) (n) (c))), eS 10 (.val (Value.int .i64 ((n : Nat) : Int))), eS 11 (.val (Value.bool false))] (by kernel_rfl) ⟨
    fun L u => u_move u (gd0 rfl) 9 rfl (.tmp 0) (Or.inl rfl) rfl,
    fun L u => u_lenV u (gd0 rfl) 10 rfl (.tmp 9) 43 rfl rfl Tryd.underlying43,
    fun L u => u_bin u (gd0 rfl) 11 rfl .eql 3 3 (.tmp 10) (.const (.int .i64 1)) rfl rfl rfl (eqg_int _ _ _ _ _ _ _ _) (Value.bool false) (no_of (fun w => i_eql _ _ _ _ w) (by omega)),
    trivial⟩ [(0, .val (Value.slice (A) (n) (c))), (2, .ptr 2 0), (11, .val (Value.bool false))] [(2, nz ++ nz ++ [Value.bool false])] ⟨rfl, rfl, rfl, trivial⟩ ⟨rfl, trivial⟩ rfl (fun a w h => ?_)
  refine go_cond h false rfl (fun ht => ?_) (fun hf => ?_)
  case refine_1 => cases ht
  refine wp_skip ?_
  refine then_norm ?_
  refine wp_seq ?_
  refine go_region h hm [eS 17 (.val (Value.slice (A) (n) (c))), eS 18 (.val (Value.int .i64 ((n : Nat) : Int))), eS 19 (.val (Value.bool true)), eS 20 (.val (Value.bool true)), eS 21 (.val undef), eS 22 (.val undef), eS 23 (.val undef), eS 24 (.val undef), eS 25 (.val (Value.bool true))] (by kernel_rfl) ⟨
    fun L u => u_move u (gd0 rfl) 17 rfl (.tmp 0) (Or.inl rfl) rfl,
    fun L u => u_lenV u (gd0 rfl) 18 rfl (.tmp 17) 43 rfl rfl Tryd.underlying43,
    fun L u => u_bin u (gd0 rfl) 19 rfl .neq 3 3 (.tmp 18) (.const (.int .i64 65)) rfl rfl rfl (eqg_int _ _ _ _ _ _ _ _) (Value.bool true) (yes_of (fun w => i_neq _ _ _ _ w) (by omega)),
    fun L u => u_move u (gd0 rfl) 20 rfl (.tmp 19) (Or.inl rfl) rfl,
    fun L u => u_no u 3 false rfl 20 rfl (lk rfl) rfl 21 rfl,
    fun L u => u_no u 3 false rfl 20 rfl (lk rfl) rfl 22 rfl,
    fun L u => u_no u 3 false rfl 20 rfl (lk rfl) rfl 23 rfl,
    fun L u => u_no u 3 false rfl 20 rfl (lk rfl) rfl 24 rfl,
    fun L u => u_pick u (gd0 rfl) 25 rfl (.tmp 20) (.const (.bool true)) (.tmp 24) rfl rfl rfl rfl _ rfl,
    trivial⟩ [(0, .val (Value.slice (A) (n) (c))), (2, .ptr 2 0), (25, .val (Value.bool true))] [(2, nz ++ nz ++ [Value.bool false])] ⟨rfl, rfl, rfl, trivial⟩ ⟨rfl, trivial⟩ rfl (fun a w h => ?_)
  refine go_cond h true rfl (fun ht => ?_) (fun hf => ?_)
  case refine_2 => cases hf
  refine go_region h hm [eS 26 (.val (.agg (nz ++ nz ++ [Value.bool true]).toArray)), eM 2 (nz ++ nz ++ [Value.bool true]), eS 3 (.val (Value.bool false))] (by kernel_rfl) ⟨
    fun L u => u_call u (gd0 rfl) 26 rfl 28 #[] #[] rfl [] rfl (cE28 _) (.agg (nz ++ nz ++ [Value.bool true]).toArray) (fun w hb => q_neutral),
    fun L u => u_store u (gd0 rfl) 26 (.tmp 2) (.tmp 26) rfl rfl rfl (vs := nz ++ nz ++ [Value.bool true]) rfl rfl i26 (lk rfl) rfl _ rfl,
    fun L u => u_move u (gd0 rfl) 3 rfl (.const (.bool false)) (Or.inr rfl) rfl,
    trivial⟩ [(2, .ptr 2 0), (3, .val (Value.bool false))] [(2, nz ++ nz ++ [Value.bool true])] ⟨rfl, rfl, trivial⟩ ⟨rfl, trivial⟩ rfl (fun a w h => ?_)
  refine wp_ret ?_
  refine then_ret ?_
  refine ret_two h _ _ rfl (ans_row (cs := nz ++ nz ++ [Value.bool true]) 2 (lk rfl) 26 rfl rfl Tryd.underlying26 rfl i26) (ans_tmp (v := Value.bool false) 3 (lk rfl) rfl) ?_
  exact ⟨rfl, h.grows⟩
set_option maxRecDepth 100000 in
set_option maxHeartbeats 4000000 in
theorem q_dec_D {w : World} (_  : Tab w) {b o c : Nat} {f : Nat → Nat} (_ : BA w (some ⟨b, o, none⟩) 65 f) (hrd : Rd w b o 65 (fun i => ((f i : Nat) : Int))) (_ : 65 ≤ c) {U V : Int} (_ : BN f 1 U) (_ : BN f 33 V) (h4 : f 0 ≠ 4) : Calls Tryd.prog 22 [Value.slice (some ⟨b, o, none⟩) (65) (c)].toArray w fun e w' => e = .returned (.tuple [.agg (nz ++ nz ++ [Value.bool true]).toArray, .bool false].toArray) ∧ Below w.heap.size w w' := by
  refine enter (args := [Value.slice (some ⟨b, o, none⟩) (65) (c)]) Tryd.func22 rfl 47 rfl (lk rfl) (fun a h => ?_)
  refine go_region h hm [eN 2 (nz ++ nz ++ [Value.bool false]), eS 3 (.val (Value.bool false))] (by kernel_rfl) ⟨
    fun L u => u_alloc u (gd0 rfl) 26 rfl 2 rfl rfl z26 _ rfl,
    fun L u => u_move u (gd0 rfl) 3 rfl (.const (.bool false)) (Or.inr rfl) rfl,
    trivial⟩ [(0, .val (Value.slice (some ⟨b, o, none⟩) (65) (c))), (2, .ptr 2 0)] [(2, nz ++ nz ++ [Value.bool false])] ⟨rfl, rfl, trivial⟩ ⟨rfl, trivial⟩ rfl (fun a w h => ?_)
  refine wp_seq ?_
  refine go_region h hm [eS 9 (.val (Value.slice (some ⟨b, o, none⟩) (65) (c))), eS 10 (.val (Value.int .i64 ((65 : Nat) : Int))), eS 11 (.val (Value.bool false))] (by kernel_rfl) ⟨
    fun L u => u_move u (gd0 rfl) 9 rfl (.tmp 0) (Or.inl rfl) rfl,
    fun L u => u_lenV u (gd0 rfl) 10 rfl (.tmp 9) 43 rfl rfl Tryd.underlying43,
    fun L u => u_bin u (gd0 rfl) 11 rfl .eql 3 3 (.tmp 10) (.const (.int .i64 1)) rfl rfl rfl (eqg_int _ _ _ _ _ _ _ _) (Value.bool false) (no_of (fun w => i_eql _ _ _ _ w) (by omega)),
    trivial⟩ [(0, .val (Value.slice (some ⟨b, o, none⟩) (65) (c))), (2, .ptr 2 0), (11, .val (Value.bool false))] [(2, nz ++ nz ++ [Value.bool false])] ⟨rfl, rfl, rfl, trivial⟩ ⟨rfl, trivial⟩ rfl (fun a w h => ?_)
  refine go_cond h false rfl (fun ht => ?_) (fun hf => ?_)
  case refine_1 => cases ht
  refine wp_skip ?_
  refine then_norm ?_
  refine wp_seq ?_
  refine go_region h hm [eS 17 (.val (Value.slice (some ⟨b, o, none⟩) (65) (c))), eS 18 (.val (Value.int .i64 ((65 : Nat) : Int))), eS 19 (.val (Value.bool false)), eS 20 (.val (Value.bool false)), eS 21 (.val (Value.slice (some ⟨b, o, none⟩) (65) (c))), eS 22 (.val (Value.pointer (some ⟨b, o + 0, none⟩))), eS 23 (.val (Value.int .u8 ((f 0 : Nat) : Int))), eS 24 (.val (Value.bool true)), eS 25 (.val (Value.bool true))] (by kernel_rfl) ⟨
    fun L u => u_move u (gd0 rfl) 17 rfl (.tmp 0) (Or.inl rfl) rfl,
    fun L u => u_lenV u (gd0 rfl) 18 rfl (.tmp 17) 43 rfl rfl Tryd.underlying43,
    fun L u => u_bin u (gd0 rfl) 19 rfl .neq 3 3 (.tmp 18) (.const (.int .i64 65)) rfl rfl rfl (eqg_int _ _ _ _ _ _ _ _) (Value.bool false) (no_of (fun w => i_neq _ _ _ _ w) (by omega)),
    fun L u => u_move u (gd0 rfl) 20 rfl (.tmp 19) (Or.inl rfl) rfl,
    fun L u => u_move u (gd1 u 3 false rfl 20 rfl (lk rfl) rfl) 21 rfl (.tmp 0) (Or.inl rfl) rfl,
    fun L u => u_atX u (gd1 u 3 false rfl 20 rfl (lk rfl) rfl) 22 rfl 43 (.tmp 21) (.const (.int .i64 0)) rfl rfl (k := 0) rfl Tryd.underlying43 i5 (by omega) (o + 0) rfl,
    fun L u => u_loadX u (gd1 u 3 false rfl 20 rfl (lk rfl) rfl) 23 rfl 5 (.tmp 22) rfl rfl Tryd.underlying5 rfl (Value.int .u8 ((f 0 : Nat) : Int)) (hrd.c 0 (by omega)) rfl,
    fun L u => u_bin u (gd1 u 3 false rfl 20 rfl (lk rfl) rfl) 24 rfl .neq 5 5 (.tmp 23) (.const (.int .u8 4)) rfl rfl rfl (eqg_int _ _ _ _ _ _ _ _) (Value.bool true) (yes_of (fun w => i_neq _ _ _ _ w) (by omega)),
    fun L u => u_pick u (gd0 rfl) 25 rfl (.tmp 20) (.const (.bool true)) (.tmp 24) rfl rfl rfl rfl _ rfl,
    trivial⟩ [(0, .val (Value.slice (some ⟨b, o, none⟩) (65) (c))), (2, .ptr 2 0), (25, .val (Value.bool true))] [(2, nz ++ nz ++ [Value.bool false])] ⟨rfl, rfl, rfl, trivial⟩ ⟨rfl, trivial⟩ rfl (fun a w h => ?_)
  refine go_cond h true rfl (fun ht => ?_) (fun hf => ?_)
  case refine_2 => cases hf
  refine go_region h hm [eS 26 (.val (.agg (nz ++ nz ++ [Value.bool true]).toArray)), eM 2 (nz ++ nz ++ [Value.bool true]), eS 3 (.val (Value.bool false))] (by kernel_rfl) ⟨
    fun L u => u_call u (gd0 rfl) 26 rfl 28 #[] #[] rfl [] rfl (cE28 _) (.agg (nz ++ nz ++ [Value.bool true]).toArray) (fun w hb => q_neutral),
    fun L u => u_store u (gd0 rfl) 26 (.tmp 2) (.tmp 26) rfl rfl rfl (vs := nz ++ nz ++ [Value.bool true]) rfl rfl i26 (lk rfl) rfl _ rfl,
    fun L u => u_move u (gd0 rfl) 3 rfl (.const (.bool false)) (Or.inr rfl) rfl,
    trivial⟩ [(2, .ptr 2 0), (3, .val (Value.bool false))] [(2, nz ++ nz ++ [Value.bool true])] ⟨rfl, rfl, trivial⟩ ⟨rfl, trivial⟩ rfl (fun a w h => ?_)
  refine wp_ret ?_
  refine then_ret ?_
  refine ret_two h _ _ rfl (ans_row (cs := nz ++ nz ++ [Value.bool true]) 2 (lk rfl) 26 rfl rfl Tryd.underlying26 rfl i26) (ans_tmp (v := Value.bool false) 3 (lk rfl) rfl) ?_
  exact ⟨rfl, h.grows⟩
set_option maxRecDepth 100000 in
set_option maxHeartbeats 4000000 in
theorem q_dec_E {w : World} (hT : Tab w) {b o c : Nat} {f : Nat → Nat} (hba : BA w (some ⟨b, o, none⟩) 65 f) (hrd : Rd w b o 65 (fun i => ((f i : Nat) : Int))) (hc : 65 ≤ c) {U V : Int} (hbU : BN f 1 U) (hbV : BN f 33 V) (h4 : f 0 = 4) (hfm : fmd U V false = false) : Calls Tryd.prog 22 [Value.slice (some ⟨b, o, none⟩) (65) (c)].toArray w fun e w' => e = .returned (.tuple [.agg (nz ++ nz ++ [Value.bool true]).toArray, .bool false].toArray) ∧ Below w.heap.size w w' := by
  refine enter (args := [Value.slice (some ⟨b, o, none⟩) (65) (c)]) Tryd.func22 rfl 47 rfl (lk rfl) (fun a h => ?_)
  refine go_region h hm [eN 2 (nz ++ nz ++ [Value.bool false]), eS 3 (.val (Value.bool false))] (by kernel_rfl) ⟨
    fun L u => u_alloc u (gd0 rfl) 26 rfl 2 rfl rfl z26 _ rfl,
    fun L u => u_move u (gd0 rfl) 3 rfl (.const (.bool false)) (Or.inr rfl) rfl,
    trivial⟩ [(0, .val (Value.slice (some ⟨b, o, none⟩) (65) (c))), (2, .ptr 2 0)] [(2, nz ++ nz ++ [Value.bool false])] ⟨rfl, rfl, trivial⟩ ⟨rfl, trivial⟩ rfl (fun a w h => ?_)
  refine wp_seq ?_
  refine go_region h hm [eS 9 (.val (Value.slice (some ⟨b, o, none⟩) (65) (c))), eS 10 (.val (Value.int .i64 ((65 : Nat) : Int))), eS 11 (.val (Value.bool false))] (by kernel_rfl) ⟨
    fun L u => u_move u (gd0 rfl) 9 rfl (.tmp 0) (Or.inl rfl) rfl,
    fun L u => u_lenV u (gd0 rfl) 10 rfl (.tmp 9) 43 rfl rfl Tryd.underlying43,
    fun L u => u_bin u (gd0 rfl) 11 rfl .eql 3 3 (.tmp 10) (.const (.int .i64 1)) rfl rfl rfl (eqg_int _ _ _ _ _ _ _ _) (Value.bool false) (no_of (fun w => i_eql _ _ _ _ w) (by omega)),
    trivial⟩ [(0, .val (Value.slice (some ⟨b, o, none⟩) (65) (c))), (2, .ptr 2 0), (11, .val (Value.bool false))] [(2, nz ++ nz ++ [Value.bool false])] ⟨rfl, rfl, rfl, trivial⟩ ⟨rfl, trivial⟩ rfl (fun a w h => ?_)
  refine go_cond h false rfl (fun ht => ?_) (fun hf => ?_)
  case refine_1 => cases ht
  refine wp_skip ?_
  refine then_norm ?_
  refine wp_seq ?_
  refine go_region h hm [eS 17 (.val (Value.slice (some ⟨b, o, none⟩) (65) (c))), eS 18 (.val (Value.int .i64 ((65 : Nat) : Int))), eS 19 (.val (Value.bool false)), eS 20 (.val (Value.bool false)), eS 21 (.val (Value.slice (some ⟨b, o, none⟩) (65) (c))), eS 22 (.val (Value.pointer (some ⟨b, o + 0, none⟩))), eS 23 (.val (Value.int .u8 ((f 0 : Nat) : Int))), eS 24 (.val (Value.bool false)), eS 25 (.val (Value.bool false))] (by kernel_rfl) ⟨
    fun L u => u_move u (gd0 rfl) 17 rfl (.tmp 0) (Or.inl rfl) rfl,
    fun L u => u_lenV u (gd0 rfl) 18 rfl (.tmp 17) 43 rfl rfl Tryd.underlying43,
    fun L u => u_bin u (gd0 rfl) 19 rfl .neq 3 3 (.tmp 18) (.const (.int .i64 65)) rfl rfl rfl (eqg_int _ _ _ _ _ _ _ _) (Value.bool false) (no_of (fun w => i_neq _ _ _ _ w) (by omega)),
    fun L u => u_move u (gd0 rfl) 20 rfl (.tmp 19) (Or.inl rfl) rfl,
    fun L u => u_move u (gd1 u 3 false rfl 20 rfl (lk rfl) rfl) 21 rfl (.tmp 0) (Or.inl rfl) rfl,
    fun L u => u_atX u (gd1 u 3 false rfl 20 rfl (lk rfl) rfl) 22 rfl 43 (.tmp 21) (.const (.int .i64 0)) rfl rfl (k := 0) rfl Tryd.underlying43 i5 (by omega) (o + 0) rfl,
    fun L u => u_loadX u (gd1 u 3 false rfl 20 rfl (lk rfl) rfl) 23 rfl 5 (.tmp 22) rfl rfl Tryd.underlying5 rfl (Value.int .u8 ((f 0 : Nat) : Int)) (hrd.c 0 (by omega)) rfl,
    fun L u => u_bin u (gd1 u 3 false rfl 20 rfl (lk rfl) rfl) 24 rfl .neq 5 5 (.tmp 23) (.const (.int .u8 4)) rfl rfl rfl (eqg_int _ _ _ _ _ _ _ _) (Value.bool false) (no_of (fun w => i_neq _ _ _ _ w) (by omega)),
    fun L u => u_pick u (gd0 rfl) 25 rfl (.tmp 20) (.const (.bool true)) (.tmp 24) rfl rfl rfl rfl _ rfl,
    trivial⟩ [(0, .val (Value.slice (some ⟨b, o, none⟩) (65) (c))), (2, .ptr 2 0), (25, .val (Value.bool false))] [(2, nz ++ nz ++ [Value.bool false])] ⟨rfl, rfl, rfl, trivial⟩ ⟨rfl, trivial⟩ rfl (fun a w h => ?_)
  refine go_cond h false rfl (fun ht => ?_) (fun hf => ?_)
  case refine_1 => cases ht
  refine wp_skip ?_
  refine then_norm ?_
  refine go_region h hm [eS 28 (.val (Value.slice (some ⟨b, o, none⟩) (65) (c))), eS 29 (.val (Value.slice (cutA (some ⟨b, o, none⟩) (c) 1) (32) (c - 1))), eS 30 (.val (.tuple [.agg (nc (U)).toArray, Value.bool true].toArray)), eS 27 (.val (.tuple [.agg (nc (U)).toArray, Value.bool true].toArray)), eS 31 (.val (.agg (nc (U)).toArray)), eS 32 (.val (Value.bool true)), eN 4 (nz), eM 4 (nc (U)), eS 5 (.val (Value.bool true))] (by kernel_rfl) ⟨
    fun L u => u_move u (gd0 rfl) 28 rfl (.tmp 0) (Or.inl rfl) rfl,
    fun L u => u_part2 u (gd0 rfl) 29 rfl 43 (.tmp 28) (.const (.int .i64 1)) (.const (.int .i64 33)) rfl rfl rfl rfl (.slice (cutA (some ⟨b, o, none⟩) (c) 1) 32 (c - 1)) (fun w => run_midS (k := 1) (m := 33) (by omega) (by omega) w),
    fun L u => u_call u (gd0 rfl) 30 rfl 50 #[(.tmp 29)] #[43] rfl [Value.slice (cutA (some ⟨b, o, none⟩) (c) 1) (32) (c - 1)] rfl (cE50 _) (.tuple [.agg (nc (U)).toArray, Value.bool true].toArray) (fun w hb => q_Big ((hba.keep (Bs.kp_of hb)).cut c 1 32 (by omega) (by omega)) hbU.shift),
    fun L u => u_move u (gd0 rfl) 27 rfl (.tmp 30) (Or.inl rfl) rfl,
    fun L u => u_part u (gd0 rfl) 31 rfl (.tmp 27) 0 rfl (vs := [.agg (nc (U)).toArray, Value.bool true]) rfl _ rfl,
    fun L u => u_part u (gd0 rfl) 32 rfl (.tmp 27) 1 rfl (vs := [.agg (nc (U)).toArray, Value.bool true]) rfl _ rfl,
    fun L u => u_alloc u (gd0 rfl) 24 rfl 4 rfl rfl z24 _ rfl,
    fun L u => u_store u (gd0 rfl) 24 (.tmp 4) (.tmp 31) rfl rfl rfl (vs := nc (U)) rfl rfl i24 (lk rfl) rfl _ rfl,
    fun L u => u_move u (gd0 rfl) 5 rfl (.tmp 32) (Or.inr rfl) rfl,
    trivial⟩ [(0, .val (Value.slice (some ⟨b, o, none⟩) (65) (c))), (2, .ptr 2 0), (4, .ptr 4 0)] [(2, nz ++ nz ++ [Value.bool false]), (4, nc (U))] ⟨rfl, rfl, rfl, trivial⟩ ⟨rfl, rfl, trivial⟩ rfl (fun a w h => ?_)
  refine go_region h hm [eS 34 (.val (Value.slice (some ⟨b, o, none⟩) (65) (c))), eS 35 (.val (Value.slice (cutA (some ⟨b, o, none⟩) (c) 33) (32) (c - 33))), eS 36 (.val (.tuple [.agg (nc (V)).toArray, Value.bool true].toArray)), eS 33 (.val (.tuple [.agg (nc (V)).toArray, Value.bool true].toArray)), eS 37 (.val (.agg (nc (V)).toArray)), eS 38 (.val (Value.bool true)), eN 6 (nz), eM 6 (nc (V)), eS 7 (.val (Value.bool true))] (by kernel_rfl) ⟨
    fun L u => u_move u (gd0 rfl) 34 rfl (.tmp 0) (Or.inl rfl) rfl,
    fun L u => u_partT u (gd0 rfl) 35 rfl 43 (.tmp 34) (.const (.int .i64 33)) rfl rfl rfl (.slice (cutA (some ⟨b, o, none⟩) (c) 33) 32 (c - 33)) (fun w => run_fromS (k := 33) (by omega) w),
    fun L u => u_call u (gd0 rfl) 36 rfl 50 #[(.tmp 35)] #[43] rfl [Value.slice (cutA (some ⟨b, o, none⟩) (c) 33) (32) (c - 33)] rfl (cE50 _) (.tuple [.agg (nc (V)).toArray, Value.bool true].toArray) (fun w hb => q_Big ((hba.keep (Bs.kp_of hb)).cut c 33 32 (by omega) (by omega)) hbV.shift),
    fun L u => u_move u (gd0 rfl) 33 rfl (.tmp 36) (Or.inl rfl) rfl,
    fun L u => u_part u (gd0 rfl) 37 rfl (.tmp 33) 0 rfl (vs := [.agg (nc (V)).toArray, Value.bool true]) rfl _ rfl,
    fun L u => u_part u (gd0 rfl) 38 rfl (.tmp 33) 1 rfl (vs := [.agg (nc (V)).toArray, Value.bool true]) rfl _ rfl,
    fun L u => u_alloc u (gd0 rfl) 24 rfl 6 rfl rfl z24 _ rfl,
    fun L u => u_store u (gd0 rfl) 24 (.tmp 6) (.tmp 37) rfl rfl rfl (vs := nc (V)) rfl rfl i24 (lk rfl) rfl _ rfl,
    fun L u => u_move u (gd0 rfl) 7 rfl (.tmp 38) (Or.inr rfl) rfl,
    trivial⟩ [(2, .ptr 2 0), (4, .ptr 4 0), (6, .ptr 6 0)] [(2, nz ++ nz ++ [Value.bool false]), (4, nc (U)), (6, nc (V))] ⟨rfl, rfl, rfl, trivial⟩ ⟨rfl, rfl, rfl, trivial⟩ rfl (fun a w h => ?_)
  refine go_region h hm [eS 39 (.val (.agg (nc (U)).toArray)), eS 40 (.val (.agg (nc (V)).toArray)), eS 41 (.val (.agg (nc (U) ++ nc (V) ++ [Value.bool false]).toArray)), eN 8 (nz ++ nz ++ [Value.bool false]), eM 8 (nc (U) ++ nc (V) ++ [Value.bool false])] (by kernel_rfl) ⟨
    fun L u => u_load u (gd0 rfl) 39 rfl 24 (.tmp 4) rfl rfl rfl Tryd.underlying24 rfl i24 (lk rfl) _ rfl,
    fun L u => u_load u (gd0 rfl) 40 rfl 24 (.tmp 6) rfl rfl rfl Tryd.underlying24 rfl i24 (lk rfl) _ rfl,
    fun L u => u_build u (gd0 rfl) 41 rfl 26 #[(0, (.tmp 39)), (1, (.tmp 40))] rfl [(0, .agg (nc (U)).toArray), (1, .agg (nc (V)).toArray)] rfl (nc (U) ++ nc (V) ++ [Value.bool false]) (bPn _ _),
    fun L u => u_alloc u (gd0 rfl) 26 rfl 8 rfl rfl z26 _ rfl,
    fun L u => u_store u (gd0 rfl) 26 (.tmp 8) (.tmp 41) rfl rfl rfl (vs := nc (U) ++ nc (V) ++ [Value.bool false]) rfl rfl i26 (lk rfl) rfl _ rfl,
    trivial⟩ [(2, .ptr 2 0), (8, .ptr 8 0)] [(2, nz ++ nz ++ [Value.bool false]), (8, nc (U) ++ nc (V) ++ [Value.bool false])] ⟨rfl, rfl, trivial⟩ ⟨rfl, rfl, trivial⟩ rfl (fun a w h => ?_)
  refine wp_seq ?_
  refine go_region h hm [eS 42 (.val (.agg (nc (U) ++ nc (V) ++ [Value.bool false]).toArray)), eS 43 (.val (Value.bool false)), eS 44 (.val (Value.bool true))] (by kernel_rfl) ⟨
    fun L u => u_load u (gd0 rfl) 42 rfl 26 (.tmp 8) rfl rfl rfl Tryd.underlying26 rfl i26 (lk rfl) _ rfl,
    fun L u => u_call u (gd0 rfl) 43 rfl 10 #[(.tmp 42)] #[26] rfl [.agg (nc (U) ++ nc (V) ++ [Value.bool false]).toArray] rfl (cE10 _) (Value.bool false) (fun w hb => by have g := q_Formed (hT.keep (Bs.kp_of hb)) hbU.num hbV.num false; rw [hfm] at g; exact g),
    fun L u => u_not u (gd0 rfl) 44 rfl 4 (.tmp 43) rfl rfl _ rfl,
    trivial⟩ [(2, .ptr 2 0), (8, .ptr 8 0), (44, .val (Value.bool true))] [(2, nz ++ nz ++ [Value.bool false]), (8, nc (U) ++ nc (V) ++ [Value.bool false])] ⟨rfl, rfl, rfl, trivial⟩ ⟨rfl, rfl, trivial⟩ rfl (fun a w h => ?_)
  refine go_cond h true rfl (fun ht => ?_) (fun hf => ?_)
  case refine_2 => cases hf
  refine go_region h hm [eS 45 (.val (.agg (nz ++ nz ++ [Value.bool true]).toArray)), eM 2 (nz ++ nz ++ [Value.bool true]), eS 3 (.val (Value.bool false))] (by kernel_rfl) ⟨
    fun L u => u_call u (gd0 rfl) 45 rfl 28 #[] #[] rfl [] rfl (cE28 _) (.agg (nz ++ nz ++ [Value.bool true]).toArray) (fun w hb => q_neutral),
    fun L u => u_store u (gd0 rfl) 26 (.tmp 2) (.tmp 45) rfl rfl rfl (vs := nz ++ nz ++ [Value.bool true]) rfl rfl i26 (lk rfl) rfl _ rfl,
    fun L u => u_move u (gd0 rfl) 3 rfl (.const (.bool false)) (Or.inr rfl) rfl,
    trivial⟩ [(2, .ptr 2 0), (3, .val (Value.bool false))] [(2, nz ++ nz ++ [Value.bool true])] ⟨rfl, rfl, trivial⟩ ⟨rfl, trivial⟩ rfl (fun a w h => ?_)
  refine wp_ret ?_
  refine then_ret ?_
  refine ret_two h _ _ rfl (ans_row (cs := nz ++ nz ++ [Value.bool true]) 2 (lk rfl) 26 rfl rfl Tryd.underlying26 rfl i26) (ans_tmp (v := Value.bool false) 3 (lk rfl) rfl) ?_
  exact ⟨rfl, h.grows⟩
set_option maxRecDepth 100000 in
set_option maxHeartbeats 4000000 in
theorem q_dec_F {w : World} (hT : Tab w) {b o c : Nat} {f : Nat → Nat} (hba : BA w (some ⟨b, o, none⟩) 65 f) (hrd : Rd w b o 65 (fun i => ((f i : Nat) : Int))) (hc : 65 ≤ c) {U V : Int} (hbU : BN f 1 U) (hbV : BN f 33 V) (h4 : f 0 = 4) (hfm : fmd U V false = true) : Calls Tryd.prog 22 [Value.slice (some ⟨b, o, none⟩) (65) (c)].toArray w fun e w' => e = .returned (.tuple [.agg (rc U V false).toArray, .bool true].toArray) ∧ Below w.heap.size w w' := by
  refine enter (args := [Value.slice (some ⟨b, o, none⟩) (65) (c)]) Tryd.func22 rfl 47 rfl (lk rfl) (fun a h => ?_)
  refine go_region h hm [eN 2 (nz ++ nz ++ [Value.bool false]), eS 3 (.val (Value.bool false))] (by kernel_rfl) ⟨
    fun L u => u_alloc u (gd0 rfl) 26 rfl 2 rfl rfl z26 _ rfl,
    fun L u => u_move u (gd0 rfl) 3 rfl (.const (.bool false)) (Or.inr rfl) rfl,
    trivial⟩ [(0, .val (Value.slice (some ⟨b, o, none⟩) (65) (c))), (2, .ptr 2 0)] [(2, nz ++ nz ++ [Value.bool false])] ⟨rfl, rfl, trivial⟩ ⟨rfl, trivial⟩ rfl (fun a w h => ?_)
  refine wp_seq ?_
  refine go_region h hm [eS 9 (.val (Value.slice (some ⟨b, o, none⟩) (65) (c))), eS 10 (.val (Value.int .i64 ((65 : Nat) : Int))), eS 11 (.val (Value.bool false))] (by kernel_rfl) ⟨
    fun L u => u_move u (gd0 rfl) 9 rfl (.tmp 0) (Or.inl rfl) rfl,
    fun L u => u_lenV u (gd0 rfl) 10 rfl (.tmp 9) 43 rfl rfl Tryd.underlying43,
    fun L u => u_bin u (gd0 rfl) 11 rfl .eql 3 3 (.tmp 10) (.const (.int .i64 1)) rfl rfl rfl (eqg_int _ _ _ _ _ _ _ _) (Value.bool false) (no_of (fun w => i_eql _ _ _ _ w) (by omega)),
    trivial⟩ [(0, .val (Value.slice (some ⟨b, o, none⟩) (65) (c))), (2, .ptr 2 0), (11, .val (Value.bool false))] [(2, nz ++ nz ++ [Value.bool false])] ⟨rfl, rfl, rfl, trivial⟩ ⟨rfl, trivial⟩ rfl (fun a w h => ?_)
  refine go_cond h false rfl (fun ht => ?_) (fun hf => ?_)
  case refine_1 => cases ht
  refine wp_skip ?_
  refine then_norm ?_
  refine wp_seq ?_
  refine go_region h hm [eS 17 (.val (Value.slice (some ⟨b, o, none⟩) (65) (c))), eS 18 (.val (Value.int .i64 ((65 : Nat) : Int))), eS 19 (.val (Value.bool false)), eS 20 (.val (Value.bool false)), eS 21 (.val (Value.slice (some ⟨b, o, none⟩) (65) (c))), eS 22 (.val (Value.pointer (some ⟨b, o + 0, none⟩))), eS 23 (.val (Value.int .u8 ((f 0 : Nat) : Int))), eS 24 (.val (Value.bool false)), eS 25 (.val (Value.bool false))] (by kernel_rfl) ⟨
    fun L u => u_move u (gd0 rfl) 17 rfl (.tmp 0) (Or.inl rfl) rfl,
    fun L u => u_lenV u (gd0 rfl) 18 rfl (.tmp 17) 43 rfl rfl Tryd.underlying43,
    fun L u => u_bin u (gd0 rfl) 19 rfl .neq 3 3 (.tmp 18) (.const (.int .i64 65)) rfl rfl rfl (eqg_int _ _ _ _ _ _ _ _) (Value.bool false) (no_of (fun w => i_neq _ _ _ _ w) (by omega)),
    fun L u => u_move u (gd0 rfl) 20 rfl (.tmp 19) (Or.inl rfl) rfl,
    fun L u => u_move u (gd1 u 3 false rfl 20 rfl (lk rfl) rfl) 21 rfl (.tmp 0) (Or.inl rfl) rfl,
    fun L u => u_atX u (gd1 u 3 false rfl 20 rfl (lk rfl) rfl) 22 rfl 43 (.tmp 21) (.const (.int .i64 0)) rfl rfl (k := 0) rfl Tryd.underlying43 i5 (by omega) (o + 0) rfl,
    fun L u => u_loadX u (gd1 u 3 false rfl 20 rfl (lk rfl) rfl) 23 rfl 5 (.tmp 22) rfl rfl Tryd.underlying5 rfl (Value.int .u8 ((f 0 : Nat) : Int)) (hrd.c 0 (by omega)) rfl,
    fun L u => u_bin u (gd1 u 3 false rfl 20 rfl (lk rfl) rfl) 24 rfl .neq 5 5 (.tmp 23) (.const (.int .u8 4)) rfl rfl rfl (eqg_int _ _ _ _ _ _ _ _) (Value.bool false) (no_of (fun w => i_neq _ _ _ _ w) (by omega)),
    fun L u => u_pick u (gd0 rfl) 25 rfl (.tmp 20) (.const (.bool true)) (.tmp 24) rfl rfl rfl rfl _ rfl,
    trivial⟩ [(0, .val (Value.slice (some ⟨b, o, none⟩) (65) (c))), (2, .ptr 2 0), (25, .val (Value.bool false))] [(2, nz ++ nz ++ [Value.bool false])] ⟨rfl, rfl, rfl, trivial⟩ ⟨rfl, trivial⟩ rfl (fun a w h => ?_)
  refine go_cond h false rfl (fun ht => ?_) (fun hf => ?_)
  case refine_1 => cases ht
  refine wp_skip ?_
  refine then_norm ?_
  refine go_region h hm [eS 28 (.val (Value.slice (some ⟨b, o, none⟩) (65) (c))), eS 29 (.val (Value.slice (cutA (some ⟨b, o, none⟩) (c) 1) (32) (c - 1))), eS 30 (.val (.tuple [.agg (nc (U)).toArray, Value.bool true].toArray)), eS 27 (.val (.tuple [.agg (nc (U)).toArray, Value.bool true].toArray)), eS 31 (.val (.agg (nc (U)).toArray)), eS 32 (.val (Value.bool true)), eN 4 (nz), eM 4 (nc (U)), eS 5 (.val (Value.bool true))] (by kernel_rfl) ⟨
    fun L u => u_move u (gd0 rfl) 28 rfl (.tmp 0) (Or.inl rfl) rfl,
    fun L u => u_part2 u (gd0 rfl) 29 rfl 43 (.tmp 28) (.const (.int .i64 1)) (.const (.int .i64 33)) rfl rfl rfl rfl (.slice (cutA (some ⟨b, o, none⟩) (c) 1) 32 (c - 1)) (fun w => run_midS (k := 1) (m := 33) (by omega) (by omega) w),
    fun L u => u_call u (gd0 rfl) 30 rfl 50 #[(.tmp 29)] #[43] rfl [Value.slice (cutA (some ⟨b, o, none⟩) (c) 1) (32) (c - 1)] rfl (cE50 _) (.tuple [.agg (nc (U)).toArray, Value.bool true].toArray) (fun w hb => q_Big ((hba.keep (Bs.kp_of hb)).cut c 1 32 (by omega) (by omega)) hbU.shift),
    fun L u => u_move u (gd0 rfl) 27 rfl (.tmp 30) (Or.inl rfl) rfl,
    fun L u => u_part u (gd0 rfl) 31 rfl (.tmp 27) 0 rfl (vs := [.agg (nc (U)).toArray, Value.bool true]) rfl _ rfl,
    fun L u => u_part u (gd0 rfl) 32 rfl (.tmp 27) 1 rfl (vs := [.agg (nc (U)).toArray, Value.bool true]) rfl _ rfl,
    fun L u => u_alloc u (gd0 rfl) 24 rfl 4 rfl rfl z24 _ rfl,
    fun L u => u_store u (gd0 rfl) 24 (.tmp 4) (.tmp 31) rfl rfl rfl (vs := nc (U)) rfl rfl i24 (lk rfl) rfl _ rfl,
    fun L u => u_move u (gd0 rfl) 5 rfl (.tmp 32) (Or.inr rfl) rfl,
    trivial⟩ [(0, .val (Value.slice (some ⟨b, o, none⟩) (65) (c))), (2, .ptr 2 0), (4, .ptr 4 0)] [(2, nz ++ nz ++ [Value.bool false]), (4, nc (U))] ⟨rfl, rfl, rfl, trivial⟩ ⟨rfl, rfl, trivial⟩ rfl (fun a w h => ?_)
  refine go_region h hm [eS 34 (.val (Value.slice (some ⟨b, o, none⟩) (65) (c))), eS 35 (.val (Value.slice (cutA (some ⟨b, o, none⟩) (c) 33) (32) (c - 33))), eS 36 (.val (.tuple [.agg (nc (V)).toArray, Value.bool true].toArray)), eS 33 (.val (.tuple [.agg (nc (V)).toArray, Value.bool true].toArray)), eS 37 (.val (.agg (nc (V)).toArray)), eS 38 (.val (Value.bool true)), eN 6 (nz), eM 6 (nc (V)), eS 7 (.val (Value.bool true))] (by kernel_rfl) ⟨
    fun L u => u_move u (gd0 rfl) 34 rfl (.tmp 0) (Or.inl rfl) rfl,
    fun L u => u_partT u (gd0 rfl) 35 rfl 43 (.tmp 34) (.const (.int .i64 33)) rfl rfl rfl (.slice (cutA (some ⟨b, o, none⟩) (c) 33) 32 (c - 33)) (fun w => run_fromS (k := 33) (by omega) w),
    fun L u => u_call u (gd0 rfl) 36 rfl 50 #[(.tmp 35)] #[43] rfl [Value.slice (cutA (some ⟨b, o, none⟩) (c) 33) (32) (c - 33)] rfl (cE50 _) (.tuple [.agg (nc (V)).toArray, Value.bool true].toArray) (fun w hb => q_Big ((hba.keep (Bs.kp_of hb)).cut c 33 32 (by omega) (by omega)) hbV.shift),
    fun L u => u_move u (gd0 rfl) 33 rfl (.tmp 36) (Or.inl rfl) rfl,
    fun L u => u_part u (gd0 rfl) 37 rfl (.tmp 33) 0 rfl (vs := [.agg (nc (V)).toArray, Value.bool true]) rfl _ rfl,
    fun L u => u_part u (gd0 rfl) 38 rfl (.tmp 33) 1 rfl (vs := [.agg (nc (V)).toArray, Value.bool true]) rfl _ rfl,
    fun L u => u_alloc u (gd0 rfl) 24 rfl 6 rfl rfl z24 _ rfl,
    fun L u => u_store u (gd0 rfl) 24 (.tmp 6) (.tmp 37) rfl rfl rfl (vs := nc (V)) rfl rfl i24 (lk rfl) rfl _ rfl,
    fun L u => u_move u (gd0 rfl) 7 rfl (.tmp 38) (Or.inr rfl) rfl,
    trivial⟩ [(2, .ptr 2 0), (4, .ptr 4 0), (6, .ptr 6 0)] [(2, nz ++ nz ++ [Value.bool false]), (4, nc (U)), (6, nc (V))] ⟨rfl, rfl, rfl, trivial⟩ ⟨rfl, rfl, rfl, trivial⟩ rfl (fun a w h => ?_)
  refine go_region h hm [eS 39 (.val (.agg (nc (U)).toArray)), eS 40 (.val (.agg (nc (V)).toArray)), eS 41 (.val (.agg (nc (U) ++ nc (V) ++ [Value.bool false]).toArray)), eN 8 (nz ++ nz ++ [Value.bool false]), eM 8 (nc (U) ++ nc (V) ++ [Value.bool false])] (by kernel_rfl) ⟨
    fun L u => u_load u (gd0 rfl) 39 rfl 24 (.tmp 4) rfl rfl rfl Tryd.underlying24 rfl i24 (lk rfl) _ rfl,
    fun L u => u_load u (gd0 rfl) 40 rfl 24 (.tmp 6) rfl rfl rfl Tryd.underlying24 rfl i24 (lk rfl) _ rfl,
    fun L u => u_build u (gd0 rfl) 41 rfl 26 #[(0, (.tmp 39)), (1, (.tmp 40))] rfl [(0, .agg (nc (U)).toArray), (1, .agg (nc (V)).toArray)] rfl (nc (U) ++ nc (V) ++ [Value.bool false]) (bPn _ _),
    fun L u => u_alloc u (gd0 rfl) 26 rfl 8 rfl rfl z26 _ rfl,
    fun L u => u_store u (gd0 rfl) 26 (.tmp 8) (.tmp 41) rfl rfl rfl (vs := nc (U) ++ nc (V) ++ [Value.bool false]) rfl rfl i26 (lk rfl) rfl _ rfl,
    trivial⟩ [(2, .ptr 2 0), (8, .ptr 8 0)] [(2, nz ++ nz ++ [Value.bool false]), (8, nc (U) ++ nc (V) ++ [Value.bool false])] ⟨rfl, rfl, trivial⟩ ⟨rfl, rfl, trivial⟩ rfl (fun a w h => ?_)
  refine wp_seq ?_
  refine go_region h hm [eS 42 (.val (.agg (nc (U) ++ nc (V) ++ [Value.bool false]).toArray)), eS 43 (.val (Value.bool true)), eS 44 (.val (Value.bool false))] (by kernel_rfl) ⟨
    fun L u => u_load u (gd0 rfl) 42 rfl 26 (.tmp 8) rfl rfl rfl Tryd.underlying26 rfl i26 (lk rfl) _ rfl,
    fun L u => u_call u (gd0 rfl) 43 rfl 10 #[(.tmp 42)] #[26] rfl [.agg (nc (U) ++ nc (V) ++ [Value.bool false]).toArray] rfl (cE10 _) (Value.bool true) (fun w hb => by have g := q_Formed (hT.keep (Bs.kp_of hb)) hbU.num hbV.num false; rw [hfm] at g; exact g),
    fun L u => u_not u (gd0 rfl) 44 rfl 4 (.tmp 43) rfl rfl _ rfl,
    trivial⟩ [(2, .ptr 2 0), (8, .ptr 8 0), (44, .val (Value.bool false))] [(2, nz ++ nz ++ [Value.bool false]), (8, nc (U) ++ nc (V) ++ [Value.bool false])] ⟨rfl, rfl, rfl, trivial⟩ ⟨rfl, rfl, trivial⟩ rfl (fun a w h => ?_)
  refine go_cond h false rfl (fun ht => ?_) (fun hf => ?_)
  case refine_1 => cases ht
  refine wp_skip ?_
  refine then_norm ?_
  refine go_region h hm [eS 46 (.val (.agg (nc (U) ++ nc (V) ++ [Value.bool false]).toArray)), eM 2 (nc (U) ++ nc (V) ++ [Value.bool false]), eS 3 (.val (Value.bool true))] (by kernel_rfl) ⟨
    fun L u => u_load u (gd0 rfl) 46 rfl 26 (.tmp 8) rfl rfl rfl Tryd.underlying26 rfl i26 (lk rfl) _ rfl,
    fun L u => u_store u (gd0 rfl) 26 (.tmp 2) (.tmp 46) rfl rfl rfl (vs := nc (U) ++ nc (V) ++ [Value.bool false]) rfl rfl i26 (lk rfl) rfl _ rfl,
    fun L u => u_move u (gd0 rfl) 3 rfl (.const (.bool true)) (Or.inr rfl) rfl,
    trivial⟩ [(2, .ptr 2 0), (3, .val (Value.bool true))] [(2, nc (U) ++ nc (V) ++ [Value.bool false])] ⟨rfl, rfl, trivial⟩ ⟨rfl, trivial⟩ rfl (fun a w h => ?_)
  refine wp_ret ?_
  refine ret_two h _ _ rfl (ans_row (cs := nc (U) ++ nc (V) ++ [Value.bool false]) 2 (lk rfl) 26 rfl rfl Tryd.underlying26 rfl i26) (ans_tmp (v := Value.bool true) 3 (lk rfl) rfl) ?_
  exact ⟨rfl, h.grows⟩
end Go.Proofs.YtimaaendbfjblaaDoor
namespace Go.Proofs.YtimaaendbfjblaaDoor
open Go.RowKit
attribute [local go_sem ↓] Go.wp_at_zero Go.wp_at_succ

theorem q_PutBig (a : Int) (w : World) :
    Calls Tryd.prog 52 #[.agg #[.int .u64 (L 0 a), .int .u64 (L 1 a), .int .u64 (L 2 a), .int .u64 (L 3 a)]] w fun e w' => ∃ g cap, e = .returned (.slice (some ⟨g, 0, none⟩) 32 cap) ∧ Row8 w' g 32 (fun i => Y (31 - i) a) ∧ Below w.heap.size w w' :=
  Calls.mono (putBig_any a w) (fun _ _ ⟨he, hr, hb⟩ => ⟨_, _, he, hr, hb⟩)
theorem q_formedL {w : World} (hT : Tab w) {X Y : Int} (hX : Num X) (hY : Num Y) (t : Bool) : Calls Tryd.prog 10 #[.agg #[.int .u64 (L 0 X), .int .u64 (L 1 X), .int .u64 (L 2 X), .int .u64 (L 3 X), .int .u64 (L 0 Y), .int .u64 (L 1 Y), .int .u64 (L 2 Y), .int .u64 (L 3 Y), .bool t]] w fun e w' => e = .returned (.bool (fmd X Y t)) ∧ Below w.heap.size w w' := q_Formed hT hX hY t
set_option maxRecDepth 100000 in
set_option maxHeartbeats 4000000 in
theorem q_enc_none {w : World} (hT : Tab w) {X Y : Int} (hX : Num X) (hY : Num Y) (t : Bool) (h : t = true ∨ fmd X Y t = false) :
    Calls Tryd.prog 24 [.agg (rc X Y t).toArray].toArray w fun e w' => ∃ b, e = .returned (.slice (some ⟨b, 0, none⟩) 1 1) ∧ w.heap.size ≤ b ∧ Row8 w' b 1 (fun _ => 0) ∧ Below w.heap.size w w' := by
  show Calls Tryd.prog 24 #[.agg #[.int .u64 (L 0 X), .int .u64 (L 1 X), .int .u64 (L 2 X), .int .u64 (L 3 X), .int .u64 (L 0 Y), .int .u64 (L 1 Y), .int .u64 (L 2 Y), .int .u64 (L 3 Y), .bool t]] w _
  have hal := K.alloc (Below.refl _ w) (.cells #[.int .u64 (L 0 X), .int .u64 (L 1 X), .int .u64 (L 2 X), .int .u64 (L 3 X), .int .u64 (L 0 Y), .int .u64 (L 1 Y), .int .u64 (L 2 Y), .int .u64 (L 3 Y), .bool t] 26)
  have hc := pt_cells w X Y t
  have HE := hide (q_formedL (hT.keep hal) hX hY t)
  have HAl := hide hal
  have c0 := hc 0 _ rfl
  have c1 := hc 1 _ rfl
  have c2 := hc 2 _ rfl
  have c3 := hc 3 _ rfl
  have c4 := hc 4 _ rfl
  have c5 := hc 5 _ rfl
  have c6 := hc 6 _ rfl
  have c7 := hc 7 _ rfl
  have c8 := hc 8 _ rfl
  clear hc hal hX hY hT
  cases t with
  | true =>
    clear h HE
    go_enter Tryd.func24, Tryd.ntmps24
    go_upto_region 1 with fail
    generalize w.alloc (.cells #[.int .u64 (L 0 X), .int .u64 (L 1 X), .int .u64 (L 2 X), .int .u64 (L 3 X), .int .u64 (L 0 Y), .int .u64 (L 1 Y), .int .u64 (L 2 Y), .int .u64 (L 3 Y), .bool true] 26) = X0 at *
    go_wp2_with fail
    go_ret
    exact ⟨X0.heap.size, rfl, HAl.out.size, one_row X0 0, K.alloc HAl.out _⟩
  | false =>
    have hf := h.resolve_left (by decide)
    rw [hf] at HE
    clear h hf
    go_enter Tryd.func24, Tryd.ntmps24
    go_upto_region 1 with fail
    generalize w.alloc (.cells #[.int .u64 (L 0 X), .int .u64 (L 1 X), .int .u64 (L 2 X), .int .u64 (L 3 X), .int .u64 (L 0 Y), .int .u64 (L 1 Y), .int .u64 (L 2 Y), .int .u64 (L 3 Y), .bool false] 26) = X0 at *
    go_wp2_with fail
    with_reducible refine Calls.mono HE.out ?_
    rintro e w2 ⟨rfl, hb⟩
    have HB2 := hide (K.call HAl.out hb)
    clear hb HE HAl c0 c1 c2 c3 c4 c5 c6 c7 c8
    go_wp2_with fail
    go_ret
    exact ⟨w2.heap.size, rfl, HB2.out.size, one_row w2 0, K.alloc HB2.out _⟩
set_option maxRecDepth 100000 in
set_option maxHeartbeats 4000000 in
theorem q_enc_at {w : World} (hT : Tab w) {X Y : Int} (hX : Num X) (hY : Num Y) (h : fmd X Y false = true) :
    Calls Tryd.prog 24 [.agg (rc X Y false).toArray].toArray w fun e w' => ∃ r, e = .returned r ∧ Made 65 (ptB X Y) r w w' ∧ Below w.heap.size w w' := by
  show Calls Tryd.prog 24 #[.agg #[.int .u64 (L 0 X), .int .u64 (L 1 X), .int .u64 (L 2 X), .int .u64 (L 3 X), .int .u64 (L 0 Y), .int .u64 (L 1 Y), .int .u64 (L 2 Y), .int .u64 (L 3 Y), .bool false]] w _
  have hal := K.alloc (Below.refl _ w) (.cells #[.int .u64 (L 0 X), .int .u64 (L 1 X), .int .u64 (L 2 X), .int .u64 (L 3 X), .int .u64 (L 0 Y), .int .u64 (L 1 Y), .int .u64 (L 2 Y), .int .u64 (L 3 Y), .bool false] 26)
  have hc := pt_cells w X Y false
  have HE := hide (q_formedL (hT.keep hal) hX hY false)
  have HAl := hide hal
  have HCs : Hid (∀ W, Below (w.alloc (.cells #[.int .u64 (L 0 X), .int .u64 (L 1 X), .int .u64 (L 2 X), .int .u64 (L 3 X), .int .u64 (L 0 Y), .int .u64 (L 1 Y), .int .u64 (L 2 Y), .int .u64 (L 3 Y), .bool false] 26)).heap.size (w.alloc (.cells #[.int .u64 (L 0 X), .int .u64 (L 1 X), .int .u64 (L 2 X), .int .u64 (L 3 X), .int .u64 (L 0 Y), .int .u64 (L 1 Y), .int .u64 (L 2 Y), .int .u64 (L 3 Y), .bool false] 26)) W → ∀ j v, [Value.int .u64 (L 0 X), .int .u64 (L 1 X), .int .u64 (L 2 X), .int .u64 (L 3 X), .int .u64 (L 0 Y), .int .u64 (L 1 Y), .int .u64 (L 2 Y), .int .u64 (L 3 Y), .bool false][j]? = some v → W.cell? ⟨w.heap.size, j, none⟩ = some v) := fun W hb j v hv => later hb (hc j v hv)
  have c0 := hc 0 _ rfl
  have c1 := hc 1 _ rfl
  have c2 := hc 2 _ rfl
  have c3 := hc 3 _ rfl
  have c4 := hc 4 _ rfl
  have c5 := hc 5 _ rfl
  have c6 := hc 6 _ rfl
  have c7 := hc 7 _ rfl
  have c8 := hc 8 _ rfl
  clear hc hal hX hY hT
  rw [h] at HE
  clear h
  go_enter Tryd.func24, Tryd.ntmps24
  go_upto_region 1 with fail
  generalize w.alloc (.cells #[.int .u64 (L 0 X), .int .u64 (L 1 X), .int .u64 (L 2 X), .int .u64 (L 3 X), .int .u64 (L 0 Y), .int .u64 (L 1 Y), .int .u64 (L 2 Y), .int .u64 (L 3 Y), .bool false] 26) = X0 at *
  go_wp2_with fail
  with_reducible refine Calls.mono HE.out ?_
  rintro e w2 ⟨rfl, hb⟩
  have HS := hide hb.size
  have HB := hide hb
  clear HE c0 c1 c2 c3 c4 c5 c6 c7 c8 hb
  obtain ⟨b2, hb2⟩ : ∃ b2, w2.heap.size = b2 := ⟨_, rfl⟩
  go_upto_region 4 with (at_make; refine wpList_make_room _ rfl _ _ rfl (base := w2.heap.size) _ _ _ _ 0 65 rfl rfl rfl rfl (by omega) (by omega) (Nat.le_refl _) ?_; intro w1 hO1 hg1)
  have ha1 : Below X0.heap.size X0 w1 := HB.out.grown hg1 HB.out.size (fun k hk => by cases hk)
  rw [hb2] at hO1 HS
  have hz1 := (hO1.lt b2 rfl).2
  have HO1 := hide (own_keep hO1 (K.alloc (Below.refl _ w1) (.cells #[.int .u8 ((4 : Nat) : Int)] 5)))
  have HA1 := hide (K.call ha1 (K.alloc (Below.refl _ w1) (.cells #[.int .u8 ((4 : Nat) : Int)] 5)))
  have HBA1 : Hid (BA (w1.alloc (.cells #[.int .u8 ((4 : Nat) : Int)] 5)) (some ⟨w1.heap.size, 0, none⟩) 1 (fun _ => 4)) := ⟨fun _ => by omega, Or.inr ⟨_, 0, rfl, (one_row w1 4).rd⟩⟩
  have HSz1 : Hid (b2 ≤ (w1.alloc (.cells #[.int .u8 ((4 : Nat) : Int)] 5)).heap.size) := by rw [size_alloc1]; show b2 ≤ _; omega
  have HB2 := hide hb2
  clear hO1 hg1 ha1 hz1 HB hb2
  go_upto_region 5 with (at_builtin; refine wpList_app rfl _ _ rfl rfl HO1.out rfl HBA1.out (by omega) HSz1.out ?_; intro v1 X1 hO2 hg2)
  have HO : Hid (X1.ownsRow b2 5 1 v1 1 (cells8 [4])) := hO2
  have HA := hide (HA1.out.grown hg2 HA1.out.size (fun k hk => by have := (HO1.out.lt k hk).1; have := HS.out; omega))
  have hX1 := HA.out
  have d0 := HCs.out _ hX1 0 _ rfl
  have d1 := HCs.out _ hX1 1 _ rfl
  have d2 := HCs.out _ hX1 2 _ rfl
  have d3 := HCs.out _ hX1 3 _ rfl
  clear hO2 hg2 HO1 HA1 HBA1 HSz1
  go_wp2_with fail
  with_reducible refine Calls.mono (q_PutBig X X1) ?_
  rintro e w3 ⟨g3, k3, rfl, hR3, hb3⟩
  have HO3 := hide (own_keep HO.out hb3)
  have HBA3 := hide (bg_ba hR3)
  have HX3 := hide (K.call HA.out hb3)
  have HSz3 : Hid (b2 ≤ w3.heap.size) := by have h1 := HX3.out.size; rcases HO3.out.2 with ⟨_, h0⟩ | ⟨q, _, _, hq0, hq, _⟩
                                            · cases h0
                                            · have h3 := (HO3.out.lt q (by rw [hq0]; rfl)).2; show b2 ≤ _; omega
  clear hR3 hb3 HO hX1 d0 d1 d2 d3
  go_upto_region 6 with (at_builtin; refine wpList_app rfl _ _ rfl rfl HO3.out rfl HBA3.out (by omega) HSz3.out ?_; intro v4 w4 hO4 hg4)
  have hb4 : Below X0.heap.size X0 w4 := HX3.out.grown hg4 HX3.out.size (fun k hk => by have := (HO3.out.lt k hk).1; have := HS.out; omega)
  have d4 := HCs.out _ hb4 4 _ rfl
  have d5 := HCs.out _ hb4 5 _ rfl
  have d6 := HCs.out _ hb4 6 _ rfl
  have d7 := HCs.out _ hb4 7 _ rfl
  have HO4 := hide hO4
  have HX4 := hide hb4
  clear hO4 hg4 hb4 HO3 HBA3 HX3 HSz3 HA
  go_wp2_with fail
  with_reducible refine Calls.mono (q_PutBig Y w4) ?_
  rintro e w5 ⟨g5, k5, rfl, hR5, hb5⟩
  have HO5 := hide (own_keep HO4.out hb5)
  have HBA5 := hide (bg_ba hR5)
  have HX5 := hide (K.call HX4.out hb5)
  have HSz5 : Hid (b2 ≤ w5.heap.size) := by have h1 := HX5.out.size; have h2 := HO4.out; rcases h2.2 with ⟨_, h0⟩ | ⟨q, _, _, rfl, hq, _⟩
                                            · omega
                                            · have h3 := (HO5.out.lt q rfl).2; show b2 ≤ _; omega
  clear hR5 hb5 HO4 HX4 d4 d5 d6 d7
  go_wp2_with (at_builtin; refine wpList_app rfl _ _ rfl rfl HO5.out rfl HBA5.out (by omega) HSz5.out ?_; intro v6 w6 hO6 hg6)
  have hb6 : Below X0.heap.size X0 w6 := HX5.out.grown hg6 HX5.out.size (fun k hk => by have := (HO5.out.lt k hk).1; have := HS.out; omega)
  have hO7 : w6.ownsRow b2 5 1 v6 65 (cells8 (fl (ptB X Y) 65)) := by
    have e : [4] ++ fl (bgB X) 32 ++ fl (bgB Y) 32 = fl (ptB X Y) 65 := by
      rw [show [4] = fl (fun _ => 4) 1 from rfl, fl_cat, fl_cat]
      rfl
    rw [e] at hO6
    exact hO6
  obtain ⟨g6, c6, rfl, hg, _⟩ := own_rd (f := fun i => ((ptB X Y i : Nat) : Int)) hO7 (fun j hj => by rw [cells8_at _ j (by rw [fl_len]; exact hj), List.getD_eq_getElem?_getD, fl_at _ hj]; rfl) (by omega)
  obtain ⟨_, _, hv, hc6, hm6⟩ := own_max hO7
  cases hv
  have hba := own_ba hO7 (cat_lt (cat_lt (fun _ => by show 4 < 256; omega) (bgB_lt X) 1) (bgB_lt Y) 33)
  go_ret
  exact ⟨_, rfl, ⟨g6, _, rfl, by have h1 := HAl.out.size; have h2 := HS.out; omega, hba, hc6, hm6⟩, K.call HAl.out hb6⟩
end Go.Proofs.YtimaaendbfjblaaDoor
namespace Go.Proofs.YtimaaendbfjblaaDoor
open Go.RowKit
attribute [local go_sem ↓] Go.wp_at_zero Go.wp_at_succ

theorem BA.congr {w : World} {a : Option Addr} {n : Nat} {f g : Nat → Nat} (h : BA w a n f) (hg : ∀ i, g i < 256) (e : ∀ i, i < n → f i = g i) : BA w a n g :=
  ⟨hg, h.at_.elim Or.inl fun ⟨b, o, ea, hr⟩ => Or.inr ⟨b, o, ea, hr.congr (fun i hi => by rw [e i hi])⟩⟩
theorem Made.congr {m : Nat} {f g : Nat → Nat} {r : Value} {w1 w2 : World} (h : Made m f r w1 w2) (hg : ∀ i, g i < 256) (e : ∀ i, i < m → f i = g i) : Made m g r w1 w2 := by
  obtain ⟨b, c, h1, h2, h3, h4⟩ := h
  exact ⟨b, c, h1, h2, h3.congr hg e, h4⟩
theorem made_one {r : Value} {w1 w2 : World} {b : Nat} (hr : r = .slice (some ⟨b, 0, none⟩) 1 1) (hb : w1.heap.size ≤ b) (h : Row8 w2 b 1 (fun _ => 0)) {f : Nat → Nat} (hf : ∀ i, f i < 256) (h0 : f 0 = 0) : Made 1 f r w1 w2 :=
  ⟨b, 1, hr, hb, ⟨hf, Or.inr ⟨b, 0, rfl, ⟨fun i hi => by
    obtain rfl : i = 0 := by omega
    rw [h0]
    exact h.c 0 (by omega)⟩⟩⟩, Nat.le_refl _, by unfold maxLen; omega⟩
theorem rc_nil : rc 0 0 true = nz ++ nz ++ [Value.bool true] := by
  show nc 0 ++ nc 0 ++ [Value.bool true] = _
  rw [← nz_nc]
theorem ptB_x (X Y : Int) {i : Nat} (h : i < 32) : ptB X Y (1 + i) = bgB X i := by
  unfold ptB cat
  rw [if_pos (by omega), if_neg (by omega)]
  congr 1
  omega
theorem ptB_y (X Y : Int) {i : Nat} (h : i < 32) : ptB X Y (33 + i) = bgB Y i := by
  unfold ptB cat
  rw [if_neg (by omega)]
  congr 1
  omega
theorem ptB_0 (X Y : Int) : ptB X Y 0 = 4 := rfl
theorem ptB_lt (X Y : Int) (i : Nat) : ptB X Y i < 256 := cat_lt (cat_lt (fun _ => by show 4 < 256; omega) (bgB_lt X) 1) (bgB_lt Y) 33 i
theorem bn_x {X Y : Int} (hX : Num X) : BN (ptB X Y) 1 X := ⟨hX, fun i hi => by rw [ptB_x X Y (by omega), bgB_int, show 31 - (31 - i) = i by omega]⟩
theorem bn_y {X Y : Int} (hY : Num Y) : BN (ptB X Y) 33 Y := ⟨hY, fun i hi => by rw [ptB_y X Y (by omega), bgB_int, show 31 - (31 - i) = i by omega]⟩
theorem ptB_of {f : Nat → Nat} {U V : Int} (h0 : f 0 = 4) (hU : BN f 1 U) (hV : BN f 33 V) : ∀ i, i < 65 → ptB U V i = f i := by
  intro i hi
  rcases (show i = 0 ∨ (1 ≤ i ∧ i < 33) ∨ (33 ≤ i ∧ i < 65) by omega) with rfl | h | h
  · rw [ptB_0, h0]
  · obtain ⟨j, rfl⟩ : ∃ j, i = 1 + j := ⟨i - 1, by omega⟩
    rw [ptB_x U V (by omega)]
    have := hU.at_ (31 - j) (by omega)
    rw [show 31 - (31 - j) = j by omega] at this
    have e := bgB_int U j
    omega
  · obtain ⟨j, rfl⟩ : ∃ j, i = 33 + j := ⟨i - 33, by omega⟩
    rw [ptB_y U V (by omega)]
    have := hV.at_ (31 - j) (by omega)
    rw [show 31 - (31 - j) = j by omega] at this
    have e := bgB_int V j
    omega
/-- What one of the two Decodes answers. -/
def DecIs (D : Nat) (w0 : World) (A : Option Addr) (n c : Nat) (U V : Int) (s ok : Bool) : Prop := ∀ w, (Bs.of w0).kp w → Calls Tryd.prog D [.slice A n c].toArray w fun e w' => e = .returned (.tuple [.agg (rc U V s).toArray, .bool ok].toArray) ∧ Below w.heap.size w w'
theorem dec_nil {D : Nat} {w : World} {v : Value} {ok : Bool} (h : Calls Tryd.prog D [v].toArray w fun e w' => e = .returned (.tuple [.agg (nz ++ nz ++ [Value.bool true]).toArray, .bool ok].toArray) ∧ Below w.heap.size w w') : Calls Tryd.prog D [v].toArray w fun e w' => e = .returned (.tuple [.agg (rc 0 0 true).toArray, .bool ok].toArray) ∧ Below w.heap.size w w' := by
  rw [rc_nil]
  exact h
/-- Both Decodes answer the same; and what is decoded, encoded again, is that. -/
theorem dec_all {w0 : World} (hT : Tab w0) {A : Option Addr} {n c : Nat} {f : Nat → Nat} (hba : BA w0 A n f) (hnc : n ≤ c) : ∃ U V s ok, Num U ∧ Num V ∧ DecIs 22 w0 A n c U V s ok ∧ DecIs 23 w0 A n c U V s ok ∧ (ok = true → ∀ w, (Bs.of w0).kp w → Calls Tryd.prog 24 [.agg (rc U V s).toArray].toArray w fun e w' => ∃ r, e = .returned r ∧ Made n f r w w' ∧ Below w.heap.size w w') := by
  by_cases h1 : n = 1
  · subst h1
    rcases hba.at_ with h | ⟨b, o, rfl, hr⟩
    · omega
    by_cases h0 : f 0 = 0
    · refine ⟨0, 0, true, true, num_nil, num_nil, fun w hk => dec_nil (q_dec_A (hr.keep (Bs.kp_of hk)) h0), fun w hk => dec_nil (r_dec_A (hr.keep (Bs.kp_of hk)) h0), fun _ w hk => Calls.mono (q_enc_none (hT.keep (Bs.kp_of hk)) num_nil num_nil true (Or.inl rfl)) (fun e w' ⟨b, he, hb, hR, hB⟩ => ⟨_, he, made_one rfl hb hR hba.lt h0, hB⟩)⟩
    · exact ⟨0, 0, true, false, num_nil, num_nil, fun w hk => dec_nil (q_dec_B (hr.keep (Bs.kp_of hk)) h0), fun w hk => dec_nil (r_dec_B (hr.keep (Bs.kp_of hk)) h0), fun h => by cases h⟩
  · by_cases h65 : n = 65
    · subst h65
      rcases hba.at_ with h | ⟨b, o, rfl, hr⟩
      · omega
      obtain ⟨U, hU⟩ := bn_is hba.lt 1
      obtain ⟨V, hV⟩ := bn_is hba.lt 33
      by_cases h4 : f 0 = 4
      · cases hf : fmd U V false with
        | true => exact ⟨U, V, false, true, hU.num, hV.num, fun w hk => q_dec_F (hT.keep (Bs.kp_of hk)) (hba.keep (Bs.kp_of hk)) (hr.keep (Bs.kp_of hk)) hnc hU hV h4 hf, fun w hk => r_dec_F (hT.keep (Bs.kp_of hk)) (hba.keep (Bs.kp_of hk)) (hr.keep (Bs.kp_of hk)) hnc hU hV h4 hf, fun _ w hk => Calls.mono (q_enc_at (hT.keep (Bs.kp_of hk)) hU.num hV.num hf) (fun e w' ⟨r, he, hM, hB⟩ => ⟨r, he, hM.congr hba.lt (ptB_of h4 hU hV), hB⟩)⟩
        | false => exact ⟨0, 0, true, false, num_nil, num_nil, fun w hk => dec_nil (q_dec_E (hT.keep (Bs.kp_of hk)) (hba.keep (Bs.kp_of hk)) (hr.keep (Bs.kp_of hk)) hnc hU hV h4 hf), fun w hk => dec_nil (r_dec_E (hT.keep (Bs.kp_of hk)) (hba.keep (Bs.kp_of hk)) (hr.keep (Bs.kp_of hk)) hnc hU hV h4 hf), fun h => by cases h⟩
      · exact ⟨0, 0, true, false, num_nil, num_nil, fun w hk => dec_nil (q_dec_D (hT.keep (Bs.kp_of hk)) (hba.keep (Bs.kp_of hk)) (hr.keep (Bs.kp_of hk)) hnc hU hV h4), fun w hk => dec_nil (r_dec_D (hba.keep (Bs.kp_of hk)) (hr.keep (Bs.kp_of hk)) hnc hU hV h4), fun h => by cases h⟩
    · exact ⟨0, 0, true, false, num_nil, num_nil, fun w _ => dec_nil (q_dec_C (w := w) h1 h65), fun w _ => dec_nil (r_dec_C (w := w) h1 h65), fun h => by cases h⟩
/-- Both Encodes answer the same bytes; they are decoded again. -/
theorem enc_all {w0 : World} (hT : Tab w0) {X Y : Int} (hX : Num X) (hY : Num Y) (t : Bool) : ∃ (m : Nat) (eb : Nat → Nat), m ≤ 100 ∧ (∀ w, (Bs.of w0).kp w → Calls Tryd.prog 24 [.agg (rc X Y t).toArray].toArray w fun e w' => ∃ r, e = .returned r ∧ Made m eb r w w' ∧ Below w.heap.size w w') ∧ (∀ w, (Bs.of w0).kp w → Calls Tryd.prog 26 [.agg (rc X Y t).toArray].toArray w fun e w' => ∃ r, e = .returned r ∧ Made m eb r w w' ∧ Below w.heap.size w w') ∧ (∀ w g d, (Bs.of w0).kp w → BA w (some ⟨g, 0, none⟩) m eb → m ≤ d → d ≤ maxLen → Calls Tryd.prog 22 [.slice (some ⟨g, 0, none⟩) m d].toArray w fun e w' => e = .returned (.tuple [.agg (if fmd X Y t = true then rc X Y t else rc 0 0 true).toArray, .bool true].toArray) ∧ Below w.heap.size w w') := by
  have none1 : (t = true ∨ fmd X Y t = false) → (fmd X Y t = true → rc X Y t = rc 0 0 true) → ∃ (m : Nat) (eb : Nat → Nat), m ≤ 100 ∧ (∀ w, (Bs.of w0).kp w → Calls Tryd.prog 24 [.agg (rc X Y t).toArray].toArray w fun e w' => ∃ r, e = .returned r ∧ Made m eb r w w' ∧ Below w.heap.size w w') ∧ (∀ w, (Bs.of w0).kp w → Calls Tryd.prog 26 [.agg (rc X Y t).toArray].toArray w fun e w' => ∃ r, e = .returned r ∧ Made m eb r w w' ∧ Below w.heap.size w w') ∧ (∀ w g d, (Bs.of w0).kp w → BA w (some ⟨g, 0, none⟩) m eb → m ≤ d → d ≤ maxLen → Calls Tryd.prog 22 [.slice (some ⟨g, 0, none⟩) m d].toArray w fun e w' => e = .returned (.tuple [.agg (if fmd X Y t = true then rc X Y t else rc 0 0 true).toArray, .bool true].toArray) ∧ Below w.heap.size w w') := fun hn he => by
    refine ⟨1, fun _ => 0, by omega, fun w hk => Calls.mono (q_enc_none (hT.keep (Bs.kp_of hk)) hX hY t hn) (fun e w' ⟨b, he, hb, hR, hB⟩ => ⟨_, he, made_one rfl hb hR (fun _ => by omega) rfl, hB⟩), fun w hk => Calls.mono (r_enc_none (hT.keep (Bs.kp_of hk)) hX hY t hn) (fun e w' ⟨b, he, hb, hR, hB⟩ => ⟨_, he, made_one rfl hb hR (fun _ => by omega) rfl, hB⟩), fun w g d _ hba _ _ => ?_⟩
    rcases hba.at_ with h | ⟨b, o, e, hr⟩
    · omega
    cases e
    have e2 : (if fmd X Y t = true then rc X Y t else rc 0 0 true) = rc 0 0 true := by
      split
      · rename_i hq; exact he hq
      · rfl
    rw [e2]
    exact dec_nil (q_dec_A (f := fun _ => 0) hr rfl)
  cases t with
  | true => exact none1 (Or.inl rfl) (fun hq => by
      have e : fmd X Y true = decide (X = 0 ∧ Y = 0) := if_pos rfl
      rw [e] at hq
      obtain ⟨rfl, rfl⟩ := of_decide_eq_true hq
      rfl)
  | false =>
    by_cases hf : fmd X Y false = true
    · refine ⟨65, ptB X Y, by omega, fun w hk => q_enc_at (hT.keep (Bs.kp_of hk)) hX hY hf, fun w hk => r_enc_at (hT.keep (Bs.kp_of hk)) hX hY hf, fun w g d hk hba hd _ => ?_⟩
      rcases hba.at_ with h | ⟨b, o, e, hr⟩
      · omega
      cases e
      rw [if_pos hf]
      exact q_dec_F (hT.keep (Bs.kp_of hk)) hba hr hd (bn_x hX) (bn_y hY) (ptB_0 X Y) hf
    · exact none1 (Or.inr (by cases h : fmd X Y false with
        | false => rfl
        | true => exact absurd h hf)) (fun hq => absurd hq hf)
theorem p256Bytes_walk {w0 : World} (hT : Tab w0) {X Y : Int} (hX : Num X) (hY : Num Y) (t : Bool) {A : Option Addr} {n c : Nat} {f : Nat → Nat} (hba : BA w0 A n f) (hnc : n ≤ c) (_hcm : c ≤ maxLen) : Calls Tryd.prog 8 #[.agg #[.int .u64 (L 0 X), .int .u64 (L 1 X), .int .u64 (L 2 X), .int .u64 (L 3 X), .int .u64 (L 0 Y), .int .u64 (L 1 Y), .int .u64 (L 2 Y), .int .u64 (L 3 Y), .bool t], .slice A n c] w0 fun e w' => e = .returned (.bool true) ∧ Below w0.heap.size w0 w' := by
  by_cases hn : n ≤ 100
  · obtain ⟨U, V, s, ok, hU, hV, d1, d2, d3⟩ := dec_all hT hba hnc
    obtain ⟨m, eb, hm1, e1, e2, e3⟩ := enc_all hT hX hY t
    cases ok with
    | true =>
      cases hf : fmd X Y t with
      | true =>
        rw [if_pos hf] at e3
        exact bytes_true_true hT hX hY t hf hba hn hU hV s hm1 d1 d2 e1 e2 e3 (d3 rfl)
      | false =>
        rw [if_neg (by rw [hf]; decide)] at e3
        exact bytes_true_false hT hX hY t hf hba hn hU hV s hm1 d1 d2 e1 e2 e3 (d3 rfl)
    | false =>
      cases hf : fmd X Y t with
      | true =>
        rw [if_pos hf] at e3
        exact bytes_false_true hT hX hY t hf hn hU hV s hm1 d1 d2 e1 e2 e3
      | false =>
        rw [if_neg (by rw [hf]; decide)] at e3
        exact bytes_false_false hT hX hY t hf hn hU hV s hm1 d1 d2 e1 e2 e3
  · exact bytes_long hT (X := X) (Y := Y) t (by omega)
end Go.Proofs.YtimaaendbfjblaaDoor
namespace Go.Proofs.YtimaaendbfjblaaDoor
open Go.ChangeShapes Go.WideShapes Go.ChangeAt Go.RowKit

theorem own : ownKnob Tryd.prog.godebug = none := by kernel_rfl
theorem cellsU64 : Tryd.prog.cellsOf 22 = 1 := by kernel_rfl
theorem cellsNat : Tryd.prog.cellsOf 24 = 4 := by kernel_rfl
theorem word_of_wf {x : Int} (h : (Lit.int .u64 x).wf = true) : 0 ≤ x ∧ x < 18446744073709551616 := by
  simp [Lit.wf, IntKind.min, IntKind.max, IntKind.signed, IntKind.bits] at h
  exact ⟨by omega, by omega⟩
theorem wf_of_word {x : Int} (h : 0 ≤ x ∧ x < 18446744073709551616) : (Lit.int .u64 x).wf = true := by
  simp [Lit.wf, IntKind.min, IntKind.max, IntKind.signed, IntKind.bits]
  omega
theorem list4 {α : Type} (l : List α) (h : (⟨l⟩ : Array α).size = 4) : ∃ a b c d, l = [a, b, c, d] := by
  match l, h with
  | [a, b, c, d], _ => exact ⟨a, b, c, d, rfl⟩

/-- A parameter of four words is the words of one number. -/
theorem open_nat {H : Type} {enc : TypeId × Value → H} {W : World} {base : Nat} {v : Value} {d : DataW H} {p : List MemPlace}
    (hv : Value.okWide Tryd.prog W .any base 24 v) (h : DataW.Trod enc Tryd.prog W 0 (fun _ => true) true 24 v d p) :
    ∃ a, Num a ∧ v = .agg #[.int .u64 (L 0 a), .int .u64 (L 1 a), .int .u64 (L 2 a), .int .u64 (L 3 a)] ∧ d = DataW.agg [.lit (.int .u64 (L 0 a)), .lit (.int .u64 (L 1 a)), .lit (.int .u64 (L 2 a)), .lit (.int .u64 (L 3 a))] ∧ p = [] := by
  obtain ⟨cs, rfl, hsz, _⟩ : ∃ cs, v = .agg cs ∧ cs.size = Tryd.prog.cellsOf 24 ∧ Row.okWide Tryd.prog W .any base 24 cs := by
    simpa [Value.okWide, Tryd.underlying24] using hv
  rw [cellsNat] at hsz
  obtain ⟨l⟩ := cs
  obtain ⟨c0, c1, c2, c3, rfl⟩ := list4 l hsz
  obtain ⟨fuel, hf⟩ := h
  obtain ⟨y0, y1, y2, y3, m, hx, hy0, hy1, hy2, hy3⟩ := trod_array4 Tryd.underlying24 cellsU64 hf
  obtain ⟨x0, e0, rfl, w0⟩ := DataW.trod_int Tryd.underlying22 hy0
  obtain ⟨x1, e1, rfl, w1⟩ := DataW.trod_int Tryd.underlying22 hy1
  obtain ⟨x2, e2, rfl, w2⟩ := DataW.trod_int Tryd.underlying22 hy2
  obtain ⟨x3, e3, rfl, w3⟩ := DataW.trod_int Tryd.underlying22 hy3
  simp at e0 e1 e2 e3
  subst e0 e1 e2 e3
  simp only [Prod.mk.injEq] at hx
  obtain ⟨rfl, rfl⟩ := hx
  obtain ⟨a, ha, rfl, rfl, rfl, rfl⟩ := num_of x0 x1 x2 x3 (word_of_wf w0) (word_of_wf w1) (word_of_wf w2) (word_of_wf w3)
  exact ⟨a, ha, rfl, rfl, rfl⟩
theorem shut_nat {H : Type} {enc : TypeId × Value → H} (W : World) (sp : Nat → Bool) (a : Int) :
    DataW.Trod enc Tryd.prog W 0 sp true 24 (.agg #[.int .u64 (L 0 a), .int .u64 (L 1 a), .int .u64 (L 2 a), .int .u64 (L 3 a)]) (DataW.agg [.lit (.int .u64 (L 0 a)), .lit (.int .u64 (L 1 a)), .lit (.int .u64 (L 2 a)), .lit (.int .u64 (L 3 a))]) [] := by
  have w0 := wf_of_word ⟨L_lo 0 a, L_hi 0 a⟩
  have w1 := wf_of_word ⟨L_lo 1 a, L_hi 1 a⟩
  have w2 := wf_of_word ⟨L_lo 2 a, L_hi 2 a⟩
  have w3 := wf_of_word ⟨L_lo 3 a, L_hi 3 a⟩
  exact ⟨2, by simp [DataW.trod, Value.cells, Tryd.underlying24, Tryd.underlying22, cellsNat, cellsU64, w0, w1, w2, w3, show List.range 4 = [0, 1, 2, 3] from rfl]⟩

theorem u8_of_wf {x : Int} (h : (Lit.int .u8 x).wf = true) : 0 ≤ x ∧ x ≤ 255 := by
  simp [Lit.wf, IntKind.min, IntKind.max, IntKind.signed, IntKind.bits] at h
  exact ⟨by omega, by omega⟩
theorem gMod : Tryd.prog.globalNamed "chronicle/field.moduli" = some 1 := by kernel_rfl
theorem tMod : (Tryd.prog.globals[1]?).map (·.type) = some 81 := by kernel_rfl
theorem cellsModuli : Tryd.prog.cellsOf 81 = 16 := by kernel_rfl
theorem cellsMod : Tryd.prog.cellsOf 77 = 4 := by kernel_rfl
theorem list16 {α : Type} (l : List α) (h : l.length = 16) : ∃ x0 x1 x2 x3 x4 x5 x6 x7 x8 x9 x10 x11 x12 x13 x14 x15, l = [x0, x1, x2, x3, x4, x5, x6, x7, x8, x9, x10, x11, x12, x13, x14, x15] := by
  match l, h with
  | [x0, x1, x2, x3, x4, x5, x6, x7, x8, x9, x10, x11, x12, x13, x14, x15], _ => exact ⟨x0, x1, x2, x3, x4, x5, x6, x7, x8, x9, x10, x11, x12, x13, x14, x15, rfl⟩
def laid1 : List (String × DataW Unit) := [("chronicle/field.moduli", Rows.laid_chronicle_field_moduli), ("chronicle/p256.curveB", Rows.laid_chronicle_p256_curveB)]
theorem cells_of_table {H : Type} {enc : TypeId × Value → H} {W : World} {sp : Nat → Bool} {held : Bool} {fuel : Nat} {l : List Value} {p : List MemPlace}
    (h : DataW.trod enc Tryd.prog W 0 sp held fuel 81 l = some (Rows.laid_chronicle_field_moduli, p)) : l = [.int .u64 18446744073709551615, .int .u64 4294967295, .int .u64 0, .int .u64 18446744069414584321, .int .u64 17562291160714782033, .int .u64 13611842547513532036, .int .u64 18446744073709551615, .int .u64 18446744069414584320, .int .u64 18446744073709551597, .int .u64 18446744073709551615, .int .u64 18446744073709551615, .int .u64 9223372036854775807, .int .u64 6346243789798364141, .int .u64 1503914060200516822, .int .u64 0, .int .u64 1152921504606846976] := by
  cases fuel with
  | zero => simp [DataW.trod] at h
  | succ fuel =>
    simp only [DataW.trod, Tryd.underlying81, cellsModuli, cellsMod] at h
    split at h
    · rename_i hl
      obtain ⟨x0, x1, x2, x3, x4, x5, x6, x7, x8, x9, x10, x11, x12, x13, x14, x15, rfl⟩ := list16 l (by simpa using hl)
      rw [show List.range 4 = [0, 1, 2, 3] from rfl] at h
      simp only [Option.map_eq_some_iff, List.mapM_cons, List.mapM_nil, Option.bind_eq_bind, Option.bind_eq_some_iff, Option.pure_def, Option.some.injEq] at h
      obtain ⟨ys, ⟨y0, h0, _, ⟨y1, h1, _, ⟨y2, h2, _, ⟨y3, h3, _, rfl, rfl⟩, rfl⟩, rfl⟩, rfl⟩, hx⟩ := h
      obtain ⟨d0, p0⟩ := y0
      obtain ⟨d1, p1⟩ := y1
      obtain ⟨d2, p2⟩ := y2
      obtain ⟨d3, p3⟩ := y3
      simp only [Rows.laid_chronicle_field_moduli, List.map_cons, List.map_nil, Prod.mk.injEq, DataW.agg.injEq, List.cons.injEq, and_true] at hx
      obtain ⟨⟨e0, e1, e2, e3⟩, _⟩ := hx
      subst e0 e1 e2 e3
      have g0 := Lib.cells_of_tab (k := .u64) (zs := [18446744073709551615, 4294967295, 0, 18446744069414584321]) Tryd.underlying77 Tryd.underlying22 cellsU64 cellsMod h0
      have g1 := Lib.cells_of_tab (k := .u64) (zs := [17562291160714782033, 13611842547513532036, 18446744073709551615, 18446744069414584320]) Tryd.underlying77 Tryd.underlying22 cellsU64 cellsMod h1
      have g2 := Lib.cells_of_tab (k := .u64) (zs := [18446744073709551597, 18446744073709551615, 18446744073709551615, 9223372036854775807]) Tryd.underlying77 Tryd.underlying22 cellsU64 cellsMod h2
      have g3 := Lib.cells_of_tab (k := .u64) (zs := [6346243789798364141, 1503914060200516822, 0, 1152921504606846976]) Tryd.underlying77 Tryd.underlying22 cellsU64 cellsMod h3
      simp at g0 g1 g2 g3
      simp [g0, g1, g2, g3]
    · cases h
theorem gB : Tryd.prog.globalNamed "chronicle/p256.curveB" = some 0 := by kernel_rfl
theorem tB : (Tryd.prog.globals[0]?).map (·.type) = some 24 := by kernel_rfl
theorem tab_of_laid {W : World} (h : laidMetH Tryd.prog laid1 W) : Tab W := by
  rw [MakeChecks.laidMetH_plain _ _ _ (by kernel_rfl)] at h
  have hB : Lib.TabIs Tryd.prog W "chronicle/p256.curveB" .u64 [4309448131093880907, 7285987128567378166, 12964664127075681980, 6540974713487397863] := Lib.tabIs_of_head (rest := []) gB tB Tryd.underlying24 Tryd.underlying22 cellsU64 cellsNat h.tail
  obtain ⟨ps, ⟨g, t, cs, fuel, p, q, hg, ht, hvar, hd, _, _⟩, _⟩ := h
  obtain rfl := Option.some.inj (gMod.symm.trans hg)
  obtain rfl := Option.some.inj (tMod.symm.trans ht)
  have hcs := cells_of_table hd
  obtain ⟨l⟩ := cs
  simp only at hcs
  subst hcs
  exact ⟨World.var?_cell hg hvar 0, World.var?_cell hg hvar 1, World.var?_cell hg hvar 2, World.var?_cell hg hvar 3, World.var?_cell hg hvar 4, World.var?_cell hg hvar 5, World.var?_cell hg hvar 6, World.var?_cell hg hvar 7, World.var?_cell hg hvar 8, World.var?_cell hg hvar 9, World.var?_cell hg hvar 10, World.var?_cell hg hvar 11, World.var?_cell hg hvar 12, World.var?_cell hg hvar 13, World.var?_cell hg hvar 14, World.var?_cell hg hvar 15, hB.cell gB 0 (by decide), hB.cell gB 1 (by decide), hB.cell gB 2 (by decide), hB.cell gB 3 (by decide)⟩
/-- The door's own heap meets the condition. -/
theorem door_met (os : Os) (args : Array Value) : laidMetH Tryd.prog laid1 ((World.doorLaid Tryd.prog 200 os).forCall (fun _ _ => 0) ⟨#[], args, []⟩).memory :=
  laidMetH_of_parts3 (fuel := 8) (laidMet_of_run' 8 (by kernel_rfl) (by kernel_rfl)) (by kernel_rfl) (by kernel_rfl)
end Go.Proofs.YtimaaendbfjblaaDoor
namespace Go.Proofs.YtimaaendbfjblaaDoor
open Go.ChangeShapes Go.WideShapes Go.ChangeAt Go.RowKit

theorem cellsPt : Tryd.prog.cellsOf 26 = 9 := by kernel_rfl
theorem cellsBool : Tryd.prog.cellsOf 4 = 1 := by kernel_rfl
theorem list9 {α : Type} (l : List α) (h : (⟨l⟩ : Array α).size = 9) : ∃ x0 x1 x2 x3 x4 x5 x6 x7 x8, l = [x0, x1, x2, x3, x4, x5, x6, x7, x8] := by
  match l, h with
  | [x0, x1, x2, x3, x4, x5, x6, x7, x8], _ => exact ⟨x0, x1, x2, x3, x4, x5, x6, x7, x8, rfl⟩
theorem open_cells {H : Type} {enc : TypeId × Value → H} {W : World} {sp : Nat → Bool} {held : Bool} {fuel : Nat} {c0 c1 c2 c3 : Value} {y : DataW H × List MemPlace}
    (hf : DataW.trod enc Tryd.prog W 0 sp held fuel 24 [c0, c1, c2, c3] = some y) :
    ∃ a, Num a ∧ c0 = .int .u64 (L 0 a) ∧ c1 = .int .u64 (L 1 a) ∧ c2 = .int .u64 (L 2 a) ∧ c3 = .int .u64 (L 3 a) ∧ y = (DataW.agg [.lit (.int .u64 (L 0 a)), .lit (.int .u64 (L 1 a)), .lit (.int .u64 (L 2 a)), .lit (.int .u64 (L 3 a))], []) := by
  obtain ⟨y0, y1, y2, y3, m, hx, hy0, hy1, hy2, hy3⟩ := trod_array4 Tryd.underlying24 cellsU64 hf
  obtain ⟨x0, e0, rfl, w0⟩ := DataW.trod_int Tryd.underlying22 hy0
  obtain ⟨x1, e1, rfl, w1⟩ := DataW.trod_int Tryd.underlying22 hy1
  obtain ⟨x2, e2, rfl, w2⟩ := DataW.trod_int Tryd.underlying22 hy2
  obtain ⟨x3, e3, rfl, w3⟩ := DataW.trod_int Tryd.underlying22 hy3
  simp at e0 e1 e2 e3
  subst e0 e1 e2 e3
  obtain ⟨a, ha, rfl, rfl, rfl, rfl⟩ := num_of x0 x1 x2 x3 (word_of_wf w0) (word_of_wf w1) (word_of_wf w2) (word_of_wf w3)
  exact ⟨a, ha, rfl, rfl, rfl, rfl, by simpa using hx⟩
/-- A point, as data. -/
def ptD {H : Type} (a b : Int) (t : Bool) : DataW H := DataW.agg [DataW.agg [.lit (.int .u64 (L 0 a)), .lit (.int .u64 (L 1 a)), .lit (.int .u64 (L 2 a)), .lit (.int .u64 (L 3 a))], DataW.agg [.lit (.int .u64 (L 0 b)), .lit (.int .u64 (L 1 b)), .lit (.int .u64 (L 2 b)), .lit (.int .u64 (L 3 b))], .lit (.bool t)]
theorem open_point {H : Type} {enc : TypeId × Value → H} {W : World} {base : Nat} {v : Value} {d : DataW H} {p : List MemPlace}
    (hv : Value.okWide Tryd.prog W .any base 26 v) (h : DataW.Trod enc Tryd.prog W 0 (fun _ => true) true 26 v d p) :
    ∃ a b t, Num a ∧ Num b ∧ v = .agg #[.int .u64 (L 0 a), .int .u64 (L 1 a), .int .u64 (L 2 a), .int .u64 (L 3 a), .int .u64 (L 0 b), .int .u64 (L 1 b), .int .u64 (L 2 b), .int .u64 (L 3 b), .bool t] ∧ d = ptD a b t ∧ p = [] := by
  obtain ⟨cs, rfl, hsz, _⟩ : ∃ cs, v = .agg cs ∧ cs.size = Tryd.prog.cellsOf 26 ∧ Row.okWide Tryd.prog W .any base 26 cs := by
    simpa [Value.okWide, Tryd.underlying26] using hv
  rw [cellsPt] at hsz
  obtain ⟨l⟩ := cs
  obtain ⟨x0, x1, x2, x3, x4, x5, x6, x7, x8, rfl⟩ := list9 l hsz
  obtain ⟨fuel, hf⟩ := h
  cases fuel with
  | zero => simp [DataW.trod] at hf
  | succ fuel =>
    simp only [DataW.trod, Value.cells, Tryd.underlying26, cellsPt] at hf
    split at hf
    · simp only [Option.map_eq_some_iff, List.mapM_cons, List.mapM_nil, Option.bind_eq_bind, Option.bind_eq_some_iff, Option.pure_def, Option.some.injEq] at hf
      obtain ⟨ys, ⟨y0, h0, _, ⟨y1, h1, _, ⟨y2, h2, _, rfl, rfl⟩, rfl⟩, rfl⟩, hx⟩ := hf
      obtain ⟨a, ha, rfl, rfl, rfl, rfl, rfl⟩ := open_cells (c0 := x0) (c1 := x1) (c2 := x2) (c3 := x3) h0
      obtain ⟨b, hb, rfl, rfl, rfl, rfl, rfl⟩ := open_cells (c0 := x4) (c1 := x5) (c2 := x6) (c3 := x7) h1
      obtain ⟨t, e, rfl⟩ := DataW.trod_bool Tryd.underlying4 h2
      simp [cellsBool] at e
      subst e
      simp at hx
      obtain ⟨rfl, rfl⟩ := hx
      exact ⟨a, b, t, ha, hb, rfl, rfl, rfl⟩
    · cases hf
theorem shut_point {H : Type} {enc : TypeId × Value → H} (W : World) (sp : Nat → Bool) (a b : Int) (t : Bool) :
    DataW.Trod enc Tryd.prog W 0 sp true 26 (.agg #[.int .u64 (L 0 a), .int .u64 (L 1 a), .int .u64 (L 2 a), .int .u64 (L 3 a), .int .u64 (L 0 b), .int .u64 (L 1 b), .int .u64 (L 2 b), .int .u64 (L 3 b), .bool t]) (ptD a b t) [] := by
  have wa0 := wf_of_word ⟨L_lo 0 a, L_hi 0 a⟩
  have wa1 := wf_of_word ⟨L_lo 1 a, L_hi 1 a⟩
  have wa2 := wf_of_word ⟨L_lo 2 a, L_hi 2 a⟩
  have wa3 := wf_of_word ⟨L_lo 3 a, L_hi 3 a⟩
  have wb0 := wf_of_word ⟨L_lo 0 b, L_hi 0 b⟩
  have wb1 := wf_of_word ⟨L_lo 1 b, L_hi 1 b⟩
  have wb2 := wf_of_word ⟨L_lo 2 b, L_hi 2 b⟩
  have wb3 := wf_of_word ⟨L_lo 3 b, L_hi 3 b⟩
  exact ⟨3, by simp [ptD, DataW.trod, Value.cells, Tryd.underlying26, Tryd.underlying24, Tryd.underlying22, Tryd.underlying4, cellsPt, cellsNat, cellsU64, cellsBool, wa0, wa1, wa2, wa3, wb0, wb1, wb2, wb3, show List.range 4 = [0, 1, 2, 3] from rfl]⟩
end Go.Proofs.YtimaaendbfjblaaDoor
namespace Go.Proofs.YtimaaendbfjblaaDoor
open Go.ChangeShapes Go.WideShapes Go.ChangeAt Go.RowKit

theorem Tryd.laidOut : laidOutB Tryd.prog = true := by kernel_rfl
theorem cellsU8 : Tryd.prog.cellsOf 5 = 1 := by kernel_rfl
theorem open_bytes {H : Type} {enc : TypeId × Value → H} {W : World} {base : Nat} {v : Value} {d : DataW H} {p : List MemPlace}
    (hv : Value.okWide Tryd.prog W .any base 43 v) (h : DataW.Trod enc Tryd.prog W 0 (fun _ => true) true 43 v d p) :
    ∃ a n c f, v = .slice a n c ∧ BA W a n f ∧ n ≤ c ∧ c ≤ maxLen := by
  obtain ⟨a0, len, cap, rfl⟩ := okWide_slice Tryd.underlying43 hv
  obtain ⟨fuel, hf⟩ := h
  rcases open_ints Tryd.underlying43 Tryd.underlying5 cellsU8 hf with ⟨hcs, hx⟩ | ⟨a, len', cap', zs, hcs, _, hl, hm, hz, hx, hcell, hwz⟩
  · simp [Value.cells] at hcs
    obtain ⟨rfl, rfl, rfl⟩ := hcs
    exact ⟨none, 0, 0, fun _ => 0, rfl, ⟨fun _ => by omega, Or.inl rfl⟩, by omega, by unfold maxLen; omega⟩
  · simp [Value.cells] at hcs
    obtain ⟨rfl, rfl, rfl⟩ := hcs
    simp only [if_true] at hz
    have hr : ∀ i, 0 ≤ zs.getD i 0 ∧ zs.getD i 0 < 256 := fun i => by
      have h := range_u8 hwz i
      simp only [List.getD_eq_getElem?_getD]
      omega
    refine ⟨some a, len, cap, fun i => (zs.getD i 0).toNat, rfl, ⟨fun i => by have := hr i; omega, ?_⟩, hl, hm⟩
    by_cases h0 : len = 0
    · exact Or.inl h0
    · obtain ⟨b, off, rfl, hc⟩ := ints_at hcell (by omega)
      exact Or.inr ⟨b, off, rfl, ⟨fun i hi => by
        have := hr i
        rw [hc i (by omega), Int.toNat_of_nonneg this.1]⟩⟩
end Go.Proofs.YtimaaendbfjblaaDoor
