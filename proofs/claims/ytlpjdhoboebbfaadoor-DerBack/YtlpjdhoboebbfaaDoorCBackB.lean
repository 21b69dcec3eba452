/- Numbers and their bytes, there and back. -/
import Derived.Test.YtlpjdhoboebbfaaDoorCNum
namespace Go.Proofs.YtlpjdhoboebbfaaDoor
open Go.RowKit

theorem E_byte {f : Nat → Int} (hf : ∀ i, 0 ≤ f i ∧ f i < 256) (o r : Nat) (hr : r < 8) : E f o 8 / 256 ^ r % 256 = f (o + r) := by
  have h0 := hf (o + 0)
  have h1 := hf (o + 1)
  have h2 := hf (o + 2)
  have h3 := hf (o + 3)
  have h4 := hf (o + 4)
  have h5 := hf (o + 5)
  have h6 := hf (o + 6)
  have h7 := hf (o + 7)
  simp only [E]
  match r, hr with
  | 0, _ => simp only [Nat.add_zero] at *; omega
  | 1, _ => simp only [Nat.add_zero] at *; omega
  | 2, _ => simp only [Nat.add_zero] at *; omega
  | 3, _ => simp only [Nat.add_zero] at *; omega
  | 4, _ => simp only [Nat.add_zero] at *; omega
  | 5, _ => simp only [Nat.add_zero] at *; omega
  | 6, _ => simp only [Nat.add_zero] at *; omega
  | 7, _ => simp only [Nat.add_zero] at *; omega
  | n + 8, h => omega
/-- Bytes that are a number's. -/
theorem num_bytes {f : Nat → Int} (hf : ∀ i, 0 ≤ f i ∧ f i < 256) : ∃ u, Num u ∧ (E f 0 8 = L 0 u ∧ E f 8 8 = L 1 u ∧ E f 16 8 = L 2 u ∧ E f 24 8 = L 3 u) ∧ ∀ i, i < 32 → Y i u = f i := by
  have hb : ∀ o, 0 ≤ E f o 8 ∧ E f o 8 < 18446744073709551616 := fun o => by have h := E_bd hf o 8; exact ⟨h.1, Int.lt_of_lt_of_le h.2 (by decide)⟩
  obtain ⟨u, hu, h0, h1, h2, h3⟩ := num_of (E f 0 8) (E f 8 8) (E f 16 8) (E f 24 8) (hb _) (hb _) (hb _) (hb _)
  refine ⟨u, hu, ⟨h0, h1, h2, h3⟩, fun i hi => ?_⟩
  have e : 8 * (i / 8) + i % 8 = i := by omega
  have hq : i / 8 = 0 ∨ i / 8 = 1 ∨ i / 8 = 2 ∨ i / 8 = 3 := by omega
  rw [← e, ← byte_word u (i / 8) (i % 8) (by omega)]
  rcases hq with hq | hq | hq | hq
  · rw [hq, ← h0, E_byte hf 0 _ (by omega)]
  · rw [hq, ← h1, E_byte hf 8 _ (by omega)]
  · rw [hq, ← h2, E_byte hf 16 _ (by omega)]
  · rw [hq, ← h3, E_byte hf 24 _ (by omega)]
theorem E_words (a : Int) : E (fun i => Y i a) 0 8 = L 0 a ∧ E (fun i => Y i a) 8 8 = L 1 a ∧ E (fun i => Y i a) 16 8 = L 2 a ∧ E (fun i => Y i a) 24 8 = L 3 a :=
  ⟨E_word a 0, E_word a 1, E_word a 2, E_word a 3⟩
theorem E_turned (a : Int) (o : Nat) (ho : o + 8 ≤ 32) : E (fun i => Y (31 - (31 - i)) a) o 8 = E (fun i => Y i a) o 8 := E_congr o 8 (fun i hi => by rw [show 31 - (31 - (o + i)) = o + i by omega])
end Go.Proofs.YtlpjdhoboebbfaaDoor
