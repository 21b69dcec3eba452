/- What codec.Big, Little and Wide answer. -/
import Derived.Test.YtnfgkflhanjjcaaPut
import Derived.Deep.RegionWith
import Derived.Deep.DeepCutAuto
namespace Go.Proofs.Ytnfgkflhanjjcaa
open Go.RowKit
attribute [local go_sem ↓] Go.wp_at_zero Go.wp_at_succ

/-- The region ends in one way. -/
def Only (A : Act) (W : World) : Exit → Act → World → Prop
  | .normal, a, w => a = A ∧ w = W
  | _, _, _ => False
theorem Only.intro (A : Act) (W : World) : Only A W .normal A W := ⟨rfl, rfl⟩
theorem Only.out {A : Act} {W : World} {Q : Exit → Act → World → Prop} (h : Q .normal A W) : ∀ e a w, Only A W e a w → Q e a w := by
  intro e a w hq
  cases e <;> first | exact (hq : False).elim | (obtain ⟨rfl, rfl⟩ := hq; exact h)

/-- A row of n words of its own, that may be written. -/
structure RowQ (w : World) (b n : Nat) (g : Nat → Int) : Prop where
  lt : b < w.heap.size
  c : ∀ i, i < n → w.cell? ⟨b, i, none⟩ = some (.int .u64 (g i))
  z : ∀ i, i < n → w.frozen? ⟨b, i, none⟩ = false
theorem RowQ.keep {W w1 : World} {b n : Nat} {g : Nat → Int} (h : RowQ W b n g) (hb : Below W.heap.size W w1) : RowQ w1 b n g :=
  ⟨Nat.lt_of_lt_of_le h.lt hb.size, fun i hi => later hb (h.c i hi), fun i hi => (hb.frozen (p := ⟨b, i, none⟩) h.lt).trans (h.z i hi)⟩
theorem RowQ.congr {w : World} {b n : Nat} {f g : Nat → Int} (h : RowQ w b n f) (e : ∀ i, i < n → f i = g i) : RowQ w b n g :=
  ⟨h.lt, fun i hi => by rw [← e i hi]; exact h.c i hi, h.z⟩
theorem RowQ.store {w : World} {b n : Nat} {f : Nat → Int} (h : RowQ w b n f) (k : Nat) (hk : k < n) (v : Int) : RowQ (w.setCell ⟨b, k, none⟩ (.int .u64 v)) b n (fun i => if i = k then v else f i) := by
  refine ⟨by simpa using h.lt, fun i hi => ?_, fun i hi => by rw [World.frozen?_setCell]; exact h.z i hi⟩
  have hc := h.c i hi
  have hcs := h.c k hk
  by_cases e : i = k
  · subst e; simp [go_sem, hc]
  · simp [go_sem, hc, e]
theorem RowQ.other {w : World} {b n m o : Nat} {f : Nat → Int} {v : Value} (h : RowQ w b n f) (hb : b ≠ m) : RowQ (w.setCell ⟨m, o, none⟩ v) b n f := by
  refine ⟨by simpa using h.lt, fun i hi => ?_, fun i hi => by rw [World.frozen?_setCell]; exact h.z i hi⟩
  have hc := h.c i hi
  simp [go_sem, hc]
theorem RowQ.drew {W : World} {b n : Nat} {g : Nat → Int} (h : RowQ W b n g) : RowQ W.drew b n g := h.keep (Below.refl _ _).drew
theorem RowQ.new4 (W : World) (b : Nat) (hb : b = W.heap.size) : RowQ (W.alloc (.cells #[.int .u64 0, .int .u64 0, .int .u64 0, .int .u64 0] 26)) b 4 (fun _ => 0) := by
  subst hb
  refine ⟨by simp, fun i hi => ?_, fun i hi => by simp [go_sem]⟩
  match i, hi with
  | 0, _ => simp [go_sem]
  | 1, _ => simp [go_sem]
  | 2, _ => simp [go_sem]
  | 3, _ => simp [go_sem]
theorem RowQ.new8 (W : World) (b : Nat) (hb : b = W.heap.size) : RowQ (W.alloc (.cells #[.int .u64 0, .int .u64 0, .int .u64 0, .int .u64 0, .int .u64 0, .int .u64 0, .int .u64 0, .int .u64 0] 30)) b 8 (fun _ => 0) := by
  subst hb
  refine ⟨by simp, fun i hi => ?_, fun i hi => by simp [go_sem]⟩
  match i, hi with
  | 0, _ => simp [go_sem]
  | 1, _ => simp [go_sem]
  | 2, _ => simp [go_sem]
  | 3, _ => simp [go_sem]
  | 4, _ => simp [go_sem]
  | 5, _ => simp [go_sem]
  | 6, _ => simp [go_sem]
  | 7, _ => simp [go_sem]

theorem or_byte {x y : Int} {r : Nat} (hr : r < 8) (hx : 0 ≤ x) (hx2 : x < 256 ^ r) (hy : 0 ≤ y) (hy2 : y < 256) : bits .or .u64 x (y * 256 ^ r) = x + y * 256 ^ r := by
  have e : (256 : Int) ^ r = ((2 ^ (8 * r) : Nat) : Int) := by rw [Nat.pow_mul]; simp
  have h7 : (2 : Nat) ^ (8 * r) ≤ 2 ^ 56 := Nat.pow_le_pow_right (by omega) (by omega)
  rw [e] at hx2 ⊢
  obtain ⟨n, rfl⟩ := Int.eq_ofNat_of_zero_le hx
  obtain ⟨m, rfl⟩ := Int.eq_ofNat_of_zero_le hy
  have hn : n < 2 ^ (8 * r) := by omega
  have hm : m * 2 ^ (8 * r) ≤ 255 * 2 ^ 56 := Nat.mul_le_mul (by omega) h7
  have hmi : (m : Int) * ((2 ^ (8 * r) : Nat) : Int) = ((m * 2 ^ (8 * r) : Nat) : Int) := by simp
  rw [hmi]
  generalize hp : 2 ^ (8 * r) = p at *
  rw [u64_or _ _ (by omega) (by omega) (by omega) (by omega), Int.toNat_natCast, Int.toNat_natCast, Nat.or_comm, Nat.mul_comm, ← hp, ← Nat.two_pow_add_eq_or_of_lt (by omega)]
  omega
/-- The words of which k bytes are there. -/
def G (f : Nat → Int) (k j : Nat) : Int := E f (8 * j) (min 8 (k - 8 * j))
theorem G_zero (f : Nat → Int) (j : Nat) : G f 0 j = 0 := by unfold G; rw [show min 8 (0 - 8 * j) = 0 by omega]; rfl
theorem G_bd {f : Nat → Int} (hf : ∀ i, 0 ≤ f i ∧ f i < 256) (k j : Nat) : 0 ≤ G f k j ∧ G f k j < 18446744073709551616 := by
  have h := E_bd hf (8 * j) (min 8 (k - 8 * j))
  have h8 : (256 : Int) ^ min 8 (k - 8 * j) ≤ 256 ^ 8 := by
    have : (256 : Nat) ^ min 8 (k - 8 * j) ≤ 256 ^ 8 := Nat.pow_le_pow_right (by omega) (by omega)
    have h' := Int.ofNat_le.2 this
    rw [Int.natCast_pow, Int.natCast_pow] at h'
    exact h'
  exact ⟨h.1, Int.lt_of_lt_of_le h.2 (Int.le_trans h8 (by decide))⟩
theorem G_step {f : Nat → Int} (hf : ∀ i, 0 ≤ f i ∧ f i < 256) (k : Nat) : bits .or .u64 (G f k (k / 8)) (f k * 256 ^ (k % 8)) = G f (k + 1) (k / 8) := by
  have h := E_bd hf (8 * (k / 8)) (k % 8)
  unfold G
  rw [show min 8 (k - 8 * (k / 8)) = k % 8 by omega, show min 8 (k + 1 - 8 * (k / 8)) = k % 8 + 1 by omega, or_byte (by omega) h.1 h.2 (hf k).1 (hf k).2]
  simp only [E]
  rw [show 8 * (k / 8) + k % 8 = k by omega]
theorem G_other (f : Nat → Int) {k j : Nat} (h : j ≠ k / 8) : G f k j = G f (k + 1) j := by
  unfold G
  rw [show min 8 (k - 8 * j) = min 8 (k + 1 - 8 * j) by omega]
theorem word_step {g h : Nat → Int} {n q : Nat} {v : Int} (hv : v = h q) (ho : ∀ {i}, i ≠ q → g i = h i) : ∀ i, i < n → (if i = q then v else g i) = h i := by
  intro i _
  split
  · next e => rw [e]; exact hv
  · next e => exact ho e
theorem G_full (f : Nat → Int) {n j : Nat} (h : 8 * j + 8 ≤ n) : G f n j = E f (8 * j) 8 := by
  unfold G
  rw [show min 8 (n - 8 * j) = 8 by omega]
end Go.Proofs.Ytnfgkflhanjjcaa
