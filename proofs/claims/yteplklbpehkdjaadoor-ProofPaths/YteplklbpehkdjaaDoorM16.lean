/- Layer 16: trees of hashes (no function of the program is named). -/
import Derived.Test.YteplklbpehkdjaaDoorS5Cat
namespace Go.Proofs.YteplklbpehkdjaaDoor
set_option maxRecDepth 100000
open Go.RowKit

/-- The greatest power of two below n. -/
def sp (n : Nat) : Nat := if n < 2 then 0 else 2 ^ (n - 1).log2
theorem sp_small {n : Nat} (h : n < 2) : sp n = 0 := if_pos h
theorem sp_pow {n : Nat} (h : 2 ≤ n) : sp n = 2 ^ (n - 1).log2 := if_neg (by omega)
theorem sp_lt {n : Nat} (h : 2 ≤ n) : sp n < n := by
  rw [sp_pow h]
  have := Nat.log2_self_le (n := n - 1) (by omega)
  omega
theorem sp_pos {n : Nat} (h : 2 ≤ n) : 1 ≤ sp n := by
  rw [sp_pow h]
  exact Nat.two_pow_pos _
theorem sp_le {n : Nat} (h : 2 ≤ n) : n ≤ 2 * sp n := by
  rw [sp_pow h]
  have : n - 1 < 2 ^ ((n - 1).log2 + 1) := Nat.lt_log2_self
  rw [Nat.pow_succ] at this
  omega
theorem sp_of {n k : Nat} (h1 : 2 ^ k < n) (h2 : n ≤ 2 * 2 ^ k) : sp n = 2 ^ k := by
  have hp := Nat.two_pow_pos k
  rw [sp_pow (by omega)]
  congr 1
  rw [Nat.log2_eq_iff (by omega), Nat.pow_succ]
  omega
/-- The text of two hashes, and its hash. -/
def ndT (f g : Nat → Nat) : Nat → Nat := cat (fun _ => 1) 1 (cat f 32 g)
def nd (f g : Nat → Nat) : Nat → Nat := hByte (hashS (ndT f g) 65)
/-- The hash of an entry. -/
def lf (f : Nat → Nat) (n : Nat) : Nat → Nat := hByte (hashS (cat (fun _ => 0) 1 f) (1 + n))
/-- The hash of nothing. -/
def e0 : Nat → Nat := hByte (hashS (fun _ => 0) 0)
/-- The root of n hashes. -/
def rt (F : Nat → Nat → Nat) (n : Nat) : Nat → Nat :=
  if _h : n < 2 then (if n = 0 then e0 else F 0) else nd (rt F (sp n)) (rt (fun i => F (sp n + i)) (n - sp n))
termination_by n
decreasing_by
  · exact sp_lt (by omega)
  · have := sp_pos (n := n) (by omega)
    omega
theorem rt_zero (F : Nat → Nat → Nat) : rt F 0 = e0 := by rw [rt, dif_pos (by omega), if_pos rfl]
theorem rt_one (F : Nat → Nat → Nat) : rt F 1 = F 0 := by rw [rt, dif_pos (by omega), if_neg (by omega)]
theorem rt_more (F : Nat → Nat → Nat) {n : Nat} (h : 2 ≤ n) : rt F n = nd (rt F (sp n)) (rt (fun i => F (sp n + i)) (n - sp n)) := by rw [rt, dif_neg (by omega)]
theorem hByte_lt' (s : St) (i : Nat) : hByte s i < 256 := Nat.mod_lt _ (by omega)
theorem nd_lt (f g : Nat → Nat) (i : Nat) : nd f g i < 256 := hByte_lt' _ _
theorem lf_lt (f : Nat → Nat) (n i : Nat) : lf f n i < 256 := hByte_lt' _ _
theorem ndT_lt {f g : Nat → Nat} (hf : ∀ i, f i < 256) (hg : ∀ i, g i < 256) (i : Nat) : ndT f g i < 256 := cat_lt (fun _ => by omega) (cat_lt hf hg 32) 1 i
theorem rt_lt {F : Nat → Nat → Nat} (hF : ∀ i j, F i j < 256) (n j : Nat) : rt F n j < 256 := by
  by_cases h : n < 2
  · rw [rt, dif_pos h]
    split
    · exact hByte_lt' _ _
    · exact hF _ _
  · rw [rt_more F (by omega)]
    exact nd_lt _ _ _
theorem nd_congr {f g f' g' : Nat → Nat} (h1 : ∀ j, j < 32 → f j = f' j) (h2 : ∀ j, j < 32 → g j = g' j) : nd f g = nd f' g' := by
  unfold nd
  rw [hashS_congr (f := ndT f g) (g := ndT f' g') (fun i hi => ?_)]
  unfold ndT cat
  by_cases e1 : i < 1
  · rw [if_pos e1, if_pos e1]
  · rw [if_neg e1, if_neg e1]
    by_cases e2 : i - 1 < 32
    · rw [if_pos e2, if_pos e2, h1 _ e2]
    · rw [if_neg e2, if_neg e2, h2 _ (by omega)]
theorem rt_congr : ∀ (n : Nat) {F G : Nat → Nat → Nat}, (∀ i, i < n → ∀ j, j < 32 → F i j = G i j) → ∀ j, j < 32 → rt F n j = rt G n j := fun n => by
  induction n using Nat.strongRecOn with
  | ind n ih =>
    intro F G h j hj
    by_cases h2 : n < 2
    · by_cases h0 : n = 0
      · subst h0
        rw [rt_zero, rt_zero]
      · obtain rfl : n = 1 := by omega
        rw [rt_one, rt_one, h 0 (by omega) j hj]
    · have hs := sp_lt (n := n) (by omega)
      have hp := sp_pos (n := n) (by omega)
      rw [rt_more F (by omega), rt_more G (by omega), nd_congr (ih (sp n) hs (fun i hi => h i (by omega))) (ih (n - sp n) (by omega) (fun i hi => h _ (by omega)))]
/-- A hash, as a value. -/
def hv (f : Nat → Nat) : Value := .agg (ab f 32).toArray
theorem ab_congr {f g : Nat → Nat} {n : Nat} (h : ∀ j, j < n → f j = g j) : ab f n = ab g n := by
  unfold ab
  exact List.map_congr_left (fun j hj => by rw [h j (List.mem_range.1 hj)])
theorem hv_congr {f g : Nat → Nat} (h : ∀ j, j < 32 → f j = g j) : hv f = hv g := by unfold hv; rw [ab_congr h]
/-- Hashes in memory. -/
structure HL (w : World) (x : Option Addr) (n : Nat) (F : Nat → Nat → Nat) : Prop where
  lt : ∀ i j, F i j < 256
  at_ : n = 0 ∨ ∃ b o, x = some ⟨b, o, none⟩ ∧ ∀ i, i < n → w.rangeAt b (o + i * 32) (ab (F i) 32)
theorem range_keep {W w1 : World} {b o : Nat} {vs : List Value} (h : W.rangeAt b o vs) (hb : Below W.heap.size W w1) : w1.rangeAt b o vs := fun j v hv => later hb (h j v hv)
theorem HL.keep {W w1 : World} {x : Option Addr} {n : Nat} {F : Nat → Nat → Nat} (h : HL W x n F) (hb : Below W.heap.size W w1) : HL w1 x n F :=
  ⟨h.lt, h.at_.elim Or.inl fun ⟨b, o, e, hc⟩ => Or.inr ⟨b, o, e, fun i hi => range_keep (hc i hi) hb⟩⟩
/-- Where the hashes from the k-th on lie. -/
def cutH (x : Option Addr) (c k : Nat) : Option Addr := if c = k then x else x.map (·.add (k * 32))
theorem HL.cut {w : World} {x : Option Addr} {n : Nat} {F : Nat → Nat → Nat} (h : HL w x n F) (c k m : Nat) (hk : k + m ≤ n) (hc : n ≤ c) : HL w (cutH x c k) m (fun i => F (k + i)) := by
  refine ⟨fun i => h.lt _, ?_⟩
  by_cases h0 : m = 0
  · exact Or.inl h0
  · rcases h.at_ with hn | ⟨b, o, rfl, hr⟩
    · omega
    · refine Or.inr ⟨b, o + k * 32, ?_, fun i hi => ?_⟩
      · unfold cutH
        rw [if_neg (by omega), Option.map_some, Addr.add_mid]
      · have := hr (k + i) (by omega)
        rw [Nat.add_mul, ← Nat.add_assoc] at this
        exact this
theorem HL.head {w : World} {x : Option Addr} {n : Nat} {F : Nat → Nat → Nat} (h : HL w x n F) (m : Nat) (hm : m ≤ n) : HL w x m F :=
  ⟨h.lt, h.at_.elim (fun h0 => Or.inl (by omega)) fun ⟨b, o, e, hc⟩ => Or.inr ⟨b, o, e, fun i hi => hc i (by omega)⟩⟩
end Go.Proofs.YteplklbpehkdjaaDoor
