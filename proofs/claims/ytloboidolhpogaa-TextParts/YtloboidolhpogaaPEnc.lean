/- What text.Encode answers. -/
import Derived.Test.YtloboidolhpogaaPCut4
import Derived.Test.YtloboidolhpogaaPGB
import Derived.Test.YtloboidolhpogaaTEncP
import Derived.Lib.AppendStr
namespace Go.Proofs.Ytloboidolhpogaa
open Go.RowKit
attribute [local go_sem ↓] Go.wp_at_zero Go.wp_at_succ

/-- The first r signs of a group of L bytes with the bits v. -/
def grp (v L : Nat) : Nat → List UInt8
  | 0 => []
  | r + 1 => grp v L r ++ [if r ≤ L then sgn (v / 64 ^ (3 - r) % 64) else 61]
/-- The signs behind k groups. -/
def encU (f : Nat → Nat) (n k : Nat) : List UInt8 := if 3 * k ≤ n then encW f k else enc f n
theorem grp_three {x y z : Nat} (hx : x < 256) (hy : y < 256) (hz : z < 256) : grp (x * 65536 + y * 256 + z) 3 4 = quad x y z := by
  simp only [grp, quad, List.nil_append, List.cons_append]
  rw [if_pos (by omega), if_pos (by omega), if_pos (by omega), if_pos (by omega)]
  rw [show (x * 65536 + y * 256 + z) / 64 ^ (3 - 0) % 64 = x / 4 by omega, show (x * 65536 + y * 256 + z) / 64 ^ (3 - 1) % 64 = x % 4 * 16 + y / 16 by omega, show (x * 65536 + y * 256 + z) / 64 ^ (3 - 2) % 64 = y % 16 * 4 + z / 64 by omega, show (x * 65536 + y * 256 + z) / 64 ^ (3 - 3) % 64 = z % 64 by omega]
theorem grp_two {x y : Nat} (hx : x < 256) (hy : y < 256) : grp (x * 65536 + y * 256) 2 4 = [sgn (x / 4), sgn (x % 4 * 16 + y / 16), sgn (y % 16 * 4), 61] := by
  simp only [grp, List.nil_append, List.cons_append]
  rw [if_pos (by omega), if_pos (by omega), if_pos (by omega), if_neg (by omega)]
  rw [show (x * 65536 + y * 256) / 64 ^ (3 - 0) % 64 = x / 4 by omega, show (x * 65536 + y * 256) / 64 ^ (3 - 1) % 64 = x % 4 * 16 + y / 16 by omega, show (x * 65536 + y * 256) / 64 ^ (3 - 2) % 64 = y % 16 * 4 by omega]
theorem grp_one {x : Nat} (hx : x < 256) : grp (x * 65536) 1 4 = [sgn (x / 4), sgn (x % 4 * 16), 61, 61] := by
  simp only [grp, List.nil_append, List.cons_append]
  rw [if_pos (by omega), if_pos (by omega), if_neg (by omega), if_neg (by omega)]
  rw [show (x * 65536) / 64 ^ (3 - 0) % 64 = x / 4 by omega, show (x * 65536) / 64 ^ (3 - 1) % 64 = x % 4 * 16 by omega]
theorem grp_len (v L : Nat) : ∀ r, (grp v L r).length = r
  | 0 => rfl
  | r + 1 => by simp [grp, grp_len v L r]
theorem gb_at (f : Nat → Nat) (k : Nat) : gb (fun i => f (k + i)) 3 = f k * 65536 + f (k + 1) * 256 + f (k + 2) ∧ gb (fun i => f (k + i)) 2 = f k * 65536 + f (k + 1) * 256 ∧ gb (fun i => f (k + i)) 1 = f k * 65536 := by
  simp only [gb, Nat.add_zero]; omega
/-- One group more. -/
theorem encU_step {f : Nat → Nat} (hf : ∀ i, f i < 256) {n k : Nat} (h : 3 * k < n) : encU f n (k + 1) = encU f n k ++ grp (gb (fun i => f (3 * k + i)) (min 3 (n - 3 * k))) (min 3 (n - 3 * k)) 4 := by
  have hx := hf (3 * k)
  have hy := hf (3 * k + 1)
  have hz := hf (3 * k + 2)
  obtain ⟨g3, g2, g1⟩ := gb_at f (3 * k)
  have hk : encU f n k = encW f k := by unfold encU; rw [if_pos (by omega)]
  rw [hk]
  rcases (show 3 * k + 3 ≤ n ∨ n = 3 * k + 1 ∨ n = 3 * k + 2 by omega) with h3 | h3 | h3
  · rw [show min 3 (n - 3 * k) = 3 by omega, g3, grp_three hx hy hz]
    unfold encU
    rw [if_pos (by omega)]
    rfl
  · rw [show min 3 (n - 3 * k) = 1 by omega, g1, grp_one hx]
    unfold encU enc encT
    rw [if_neg (by omega), if_pos (by omega), show n / 3 = k by omega, show n - 1 = 3 * k by omega]
  · rw [show min 3 (n - 3 * k) = 2 by omega, g2, grp_two hx hy]
    unfold encU enc encT
    rw [if_neg (by omega), if_neg (by omega), if_pos (by omega), show n / 3 = k by omega, show n - 1 = 3 * k + 1 by omega, show n - 2 = 3 * k by omega]
theorem encU_end {f : Nat → Nat} {n k : Nat} (h : ¬ 3 * k < n) (h2 : 3 * k < n + 3) : encU f n k = enc f n := by
  unfold encU
  by_cases e : 3 * k ≤ n
  · rw [if_pos e]
    unfold enc encT
    rw [if_neg (by omega), if_neg (by omega), List.append_nil, show n / 3 = k by omega]
  · rw [if_neg e]
theorem encU_len (f : Nat → Nat) (n k : Nat) (h2 : 3 * k < n + 3) : (encU f n k).length = 4 * k := by
  unfold encU
  by_cases e : 3 * k ≤ n
  · rw [if_pos e, encW_len]
  · rw [if_neg e, enc_len]; omega
/-- Signs as cells. -/
def cellsT (l : List UInt8) : List Value := l.map (fun (x : UInt8) => Value.int .u8 (x.toNat : Int))
theorem cellsT_append (a b : List UInt8) : cellsT (a ++ b) = cellsT a ++ cellsT b := List.map_append
theorem cellsT_61 : Lib.strCells ⟨#[61]⟩ = cellsT [61] := rfl
theorem fold_push : ∀ (l : List UInt8) (a : List UInt8), (l.map (fun (x : UInt8) => (x.toNat : Int))).foldl (fun r n => r.push (UInt8.ofNat n.toNat)) (tx a) = tx (a ++ l)
  | [], a => by simp
  | c :: l, a => by
    simp only [List.map_cons, List.foldl_cons]
    have e : (tx a).push (UInt8.ofNat (((c.toNat : Int)).toNat)) = tx (a ++ [c]) := by
      unfold tx ByteArray.push
      simp
    rw [e, fold_push l (a ++ [c])]
    simp
/-- A row of signs as a text. -/
theorem text_of {w : World} {base n g cap : Nat} {l : List UInt8} (h : w.ownsRow base 5 1 (.slice (some ⟨g, 0, none⟩) n cap) n (cellsT l)) : (convert 22 9 (.slice (some ⟨g, 0, none⟩) n cap)).run Try.prog w = .ok (.string (tx l)) w := by
  have hl : l.length = n := by have := h.1; simp [cellsT] at this; exact this
  have hload : (loadCells ⟨g, 0, none⟩ n).run Try.prog w = .ok ((l.map (fun (x : UInt8) => (x.toNat : Int))).map (Value.int .u8)).toArray w := by
    have h2 := run_loadCells_list (P := Try.prog) w ⟨g, 0, none⟩ (cellsT l) (fun j v hv => by
      have hj : j < (cellsT l).length := by
        rcases Nat.lt_or_ge j (cellsT l).length with h' | h'
        · exact h'
        · rw [List.getElem?_eq_none h'] at hv; cases hv
      have := h.cellAt j (by simp [cellsT] at hj; omega)
      rw [hv] at this
      have ea : (⟨g, 0, none⟩ : Addr).add j = ⟨g, j, none⟩ := by unfold Addr.add; split <;> simp_all
      rw [ea]; exact this)
    rw [show (cellsT l).length = n by simp [cellsT, hl]] at h2
    rw [h2]
    simp [cellsT]
  rw [run_convert_bytes_string _ _ _ 5 _ _ _ Try.underlying22 Try.underlying5 Try.underlying9, run_bytesToString _ _ n cap _ hload]
  have := fold_push l []
  simp only [List.nil_append] at this
  rw [← this]
  rfl
theorem sgn_get (c : Nat) (h : c < 64) : (tx signs)[c]'(by rw [tx_size, signs_len]; exact h) = sgn c := by
  show signs.toArray[c] = sgn c
  unfold sgn
  rw [List.getD_eq_getElem?_getD, List.getElem?_eq_getElem (by rw [signs_len]; exact h)]
  exact List.getElem_toArray _
/-- A row of signs as a text, be it nil. -/
theorem text_own {w : World} {base n : Nat} {v : Value} {l : List UInt8} (h : w.ownsRow base 5 1 v n (cellsT l)) : ∃ a cap, v = .slice a n cap ∧ (convert 22 9 (.slice a n cap)).run Try.prog w = .ok (.string (tx l)) w := by
  rcases h.2 with ⟨rfl, rfl⟩ | ⟨g, cap, cur, rfl, _⟩
  · have hl : l = [] := by have := h.1; simp [cellsT] at this; exact this
    subst hl
    refine ⟨none, 0, rfl, ?_⟩
    rw [run_convert_bytes_string _ _ _ 5 _ _ _ Try.underlying22 Try.underlying5 Try.underlying9]
    rfl
  · exact ⟨_, _, rfl, text_of h⟩
end Go.Proofs.Ytloboidolhpogaa
