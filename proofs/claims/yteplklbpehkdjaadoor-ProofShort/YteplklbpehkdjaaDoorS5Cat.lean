/- Texts, one behind the other; hashes as values (no function of the program is named). -/
import Derived.Test.YteplklbpehkdjaaDoorS5PadP
import Derived.Test.YteplklbpehkdjaaDoorS5Ab
import Derived.Test.YteplklbpehkdjaaDoorKCat
namespace Go.Proofs.YteplklbpehkdjaaDoor
set_option maxRecDepth 100000
open Go.RowKit

theorem word_congr {p q : Nat → Nat} (t : Nat) : ∀ (i : Nat), i ≤ 4 → (∀ j, j < i → p (4 * t + j) = q (4 * t + j)) → wordP p t i = wordP q t i
  | 0, _, _ => rfl
  | i + 1, hi, h => by simp only [wordP]; rw [word_congr t i (by omega) (fun j hj => h j (by omega)), h i (by omega)]
theorem sched_congr {m l : Nat → Wd} (h : ∀ t, t < 16 → m t = l t) : ∀ (t : Nat), t < 64 → sched m t = sched l t := fun t => by
  induction t using Nat.strongRecOn with
  | ind t ih =>
    intro ht
    by_cases e : t < 16
    · rw [sched_low _ e, sched_low _ e, h t e]
    · rw [sched_up _ e, sched_up _ e, ih (t - 2) (by omega) (by omega), ih (t - 7) (by omega) (by omega), ih (t - 15) (by omega) (by omega), ih (t - 16) (by omega) (by omega)]
theorem rnds_congr {k w v : Nat → Wd} (s : St) : ∀ (t : Nat), (∀ i, i < t → w i = v i) → rnds k w s t = rnds k v s t
  | 0, _ => rfl
  | t + 1, h => by simp only [rnds]; rw [rnds_congr s t (fun i hi => h i (by omega)), h t (by omega)]
theorem takeB_congr {p q : Nat → Nat} (s : St) (h : ∀ i, i < 64 → p i = q i) : takeB s p = takeB s q := by
  unfold takeB
  rw [rnds_congr s 64 (fun i hi => sched_congr (fun t ht => word_congr t 4 (by omega) (fun j hj => h _ (by omega))) i hi)]
theorem hs_congr {p q : Nat → Nat} : ∀ (k : Nat), (∀ i, i < 64 * k → p i = q i) → hs p k = hs q k
  | 0, _ => rfl
  | k + 1, h => by
    simp only [hs]
    rw [hs_congr k (fun i hi => h i (by omega)), takeB_congr (q := fun i => q (64 * k + i)) _ (fun i hi => h _ (by omega))]
theorem cat_cat (f g : Nat → Nat) (n k : Nat) : cat (cat f n g) (n + k) (fun i => g (k + i)) = cat f n g := by
  funext i
  unfold cat
  by_cases h1 : i < n + k
  · rw [if_pos h1]
  · rw [if_neg h1, if_neg (by omega)]
    show g (k + (i - (n + k))) = _
    congr 1
    omega
theorem pad_congr {f g : Nat → Nat} {n : Nat} (h : ∀ i, i < n → f i = g i) (i : Nat) : pad f n i = pad g n i := by
  unfold pad
  by_cases h1 : i < n
  · rw [if_pos h1, if_pos h1, h i h1]
  · rw [if_neg h1, if_neg h1]
theorem hashS_congr {f g : Nat → Nat} {n : Nat} (h : ∀ i, i < n → f i = g i) : hashS f n = hashS g n := by
  unfold hashS
  exact hs_congr _ (fun i _ => pad_congr h i)
/-- A hash, as a value. -/
def hA (f : Nat → Nat) (n : Nat) : Array Value := (ab (hByte (hashS f n)) 32).toArray
theorem hA_congr {f g : Nat → Nat} {n : Nat} (h : ∀ i, i < n → f i = g i) : hA f n = hA g n := by unfold hA; rw [hashS_congr h]
end Go.Proofs.YteplklbpehkdjaaDoor
