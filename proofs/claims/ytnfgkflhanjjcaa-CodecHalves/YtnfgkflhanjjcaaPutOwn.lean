/- What codec.PutLittle answers, as a row of its own that may grow. -/
import Derived.Test.YtnfgkflhanjjcaaCTurned
import Derived.Deep.LoopGhost
namespace Go.Proofs.Ytnfgkflhanjjcaa
open Go.RowKit
attribute [local go_sem ↓] Go.wp_at_zero Go.wp_at_succ

/-- The bytes of a number, the least first. -/
def bl (a : Int) : List Value := (List.range 32).map (fun i => Value.int .u8 (Y i a))
theorem bl_at (a : Int) (j : Nat) (h : j < 32) : (bl a)[j]? = some (Value.int .u8 (Y j a)) := by simp [bl, h]
theorem bl_len (a : Int) : (bl a).length = 32 := by simp [bl]
theorem bl_one (a : Int) : ∀ u ∈ bl a, u.oneCell' = true := by
  intro u hu
  simp only [bl, List.mem_map] at hu
  obtain ⟨i, _, rfl⟩ := hu
  rfl
theorem bl_of {w : World} {base g cap : Nat} {xs : List Value} {a : Int} (h : w.ownsRow base 5 1 (.slice (some ⟨g, 0, none⟩) 32 cap) 32 xs) (hR : Row8 w g 32 (fun i => Y i a)) : xs = bl a := by
  have hl : xs.length = 32 := by have := h.1; omega
  apply List.ext_getElem?
  intro j
  by_cases hj : j < 32
  · rw [bl_at a j hj, ← hR.c j hj, h.cellAt j (by omega)]
  · rw [List.getElem?_eq_none (by omega), List.getElem?_eq_none (by rw [bl_len]; omega)]
theorem own_keep {w w' : World} {base n : Nat} {v : Value} {xs : List Value} (h : w.ownsRow base 5 1 v n xs) (hb : Below w.heap.size w w') : w'.ownsRow base 5 1 v n xs := by
  refine ⟨h.1, ?_⟩
  rcases h.2 with h0 | ⟨g, cap, cur, rfl, hg, hh, h1, h2, h3, h4⟩
  · exact Or.inl h0
  · exact Or.inr ⟨g, cap, cur, rfl, hg, by rw [hb.block g (h.lt g rfl).2]; exact hh, h1, h2, h3, h4⟩

set_option maxHeartbeats 2000000 in
theorem putLittle_own (a : Int) (w : World) :
    Calls Try.prog 15 #[.agg #[.int .u64 (L 0 a), .int .u64 (L 1 a), .int .u64 (L 2 a), .int .u64 (L 3 a)]] w fun e w' => ∃ n, w.heap.size ≤ n ∧ e = .returned (.slice (some ⟨n, 0, none⟩) 32 32) ∧ w'.ownsRow w.heap.size 5 1 (.slice (some ⟨n, 0, none⟩) 32 32) 32 (bl a) ∧ Row8 w' n 32 (fun i => Y i a) ∧ Below w.heap.size w w' := by
  obtain ⟨i0, hi, hz0, hz1, hz2⟩ := info_parts info8
  have hA0 := Arr.new w w.heap.size rfl 26 (L 0 a) (L 1 a) (L 2 a) (L 3 a)
  go_enter Try.func15, Try.ntmps15
  go_wp2_with (at_make; refine wpList_make_full _ rfl _ _ 22 rfl w.heap.size 5 i0 (.int .u8 0) 1 Try.underlying22 hi hz0 hz1 .i64 .i64 32 32 32 rfl rfl rfl rfl (by rw [hz2]; decide) (by decide) (by simp) ?_; intro w1 hown hgrow)
  have hR1 : Row8 w1 (w.heap.size + 1) 32 (fun _ => 0) := by have h := row_made hown; rw [size_alloc1] at h; exact h
  have hO1 : ∃ xs, w1.ownsRow w.heap.size 5 1 (.slice (some ⟨w.heap.size + 1, 0, none⟩) 32 32) 32 xs := ⟨_, by rw [size_alloc1] at hown; exact hown⟩
  have hB1 : Below w.heap.size w w1 := below_grown (K.alloc (Below.refl _ w) _) hgrow
  have hA1 := hA0.keep ((Below.refl _ _).grown hgrow (Nat.le_refl _) (fun k hk => by cases hk))
  clear hown hgrow hA0 hi hz0 hz1 hz2
  go_loopg [6] 32 (fun g s6 wr => ∃ k : Nat, g = 32 - k ∧ k ≤ 32 ∧ s6 = .int .i64 k ∧ Row8 wr (w.heap.size + 1) 32 (fun i => if i < k then Y i a else 0) ∧ Arr wr w.heap.size (L 0 a) (L 1 a) (L 2 a) (L 3 a) ∧ Below w.heap.size w wr ∧ ∃ xs, wr.ownsRow w.heap.size 5 1 (.slice (some ⟨w.heap.size + 1, 0, none⟩) 32 32) 32 xs)
  case atStart => exact ⟨0, rfl, by omega, rfl, hR1.congr (fun i hi => by simp), hA1, hB1, hO1⟩
  case round =>
    clear hR1 hA1 hB1 hO1 w1
    obtain ⟨k, rfl, hk, rfl, hR, hA, hB, xs, hO⟩ := hrel
    by_cases hlt : k < 32
    · have HR : Hid (Row8 wr (w.heap.size + 1) 32 (fun i => if i < k then Y i a else 0)) := hR
      have HA : Hid (Arr wr w.heap.size (L 0 a) (L 1 a) (L 2 a) (L 3 a)) := hA
      have HB : Hid (Below w.heap.size w wr) := hB
      have HO : Hid (wr.ownsRow w.heap.size 5 1 (.slice (some ⟨w.heap.size + 1, 0, none⟩) 32 32) 32 xs) := hO
      have hcell := hR.c k (by omega)
      have hfree := hR.z k (by omega)
      have ⟨al, a0, a1, a2, a3⟩ := hA
      have hrl := hR.lt
      have hq : (k : Int) / 8 = 0 ∨ (k : Int) / 8 = 1 ∨ (k : Int) / 8 = 2 ∨ (k : Int) / 8 = 3 := by omega
      clear hR hA hB hO
      rcases hq with hq | hq | hq | hq
      · have l1 := L_lo 0 a
        have l2 := L_hi 0 a
        go_wp2_with (go_at_call 21; with_reducible refine Calls.mono (drop_any (L 0 a) (by omega) (by omega) k (by omega) _) ?_; rintro e w' ⟨rfl, rfl⟩)
        go_roundg (32 - (k + 1))
        case measure => omega
        case rel => exact ⟨k + 1, rfl, by omega, by go_num, (HR.out.store k (by omega) _).congr (fun i hi => by rw [byte_word a 0 (k % 8) (by omega), show 8 * 0 + k % 8 = k by omega]; (repeat' split) <;> first | rfl | (congr 1; omega) | omega), HA.out.set1 (by omega), K.set HB.out (by simp) _, _, (HO.out.stored k _).1⟩
      · have l1 := L_lo 1 a
        have l2 := L_hi 1 a
        go_wp2_with (go_at_call 21; with_reducible refine Calls.mono (drop_any (L 1 a) (by omega) (by omega) k (by omega) _) ?_; rintro e w' ⟨rfl, rfl⟩)
        go_roundg (32 - (k + 1))
        case measure => omega
        case rel => exact ⟨k + 1, rfl, by omega, by go_num, (HR.out.store k (by omega) _).congr (fun i hi => by rw [byte_word a 1 (k % 8) (by omega), show 8 * 1 + k % 8 = k by omega]; (repeat' split) <;> first | rfl | (congr 1; omega) | omega), HA.out.set1 (by omega), K.set HB.out (by simp) _, _, (HO.out.stored k _).1⟩
      · have l1 := L_lo 2 a
        have l2 := L_hi 2 a
        go_wp2_with (go_at_call 21; with_reducible refine Calls.mono (drop_any (L 2 a) (by omega) (by omega) k (by omega) _) ?_; rintro e w' ⟨rfl, rfl⟩)
        go_roundg (32 - (k + 1))
        case measure => omega
        case rel => exact ⟨k + 1, rfl, by omega, by go_num, (HR.out.store k (by omega) _).congr (fun i hi => by rw [byte_word a 2 (k % 8) (by omega), show 8 * 2 + k % 8 = k by omega]; (repeat' split) <;> first | rfl | (congr 1; omega) | omega), HA.out.set1 (by omega), K.set HB.out (by simp) _, _, (HO.out.stored k _).1⟩
      · have l1 := L_lo 3 a
        have l2 := L_hi 3 a
        go_wp2_with (go_at_call 21; with_reducible refine Calls.mono (drop_any (L 3 a) (by omega) (by omega) k (by omega) _) ?_; rintro e w' ⟨rfl, rfl⟩)
        go_roundg (32 - (k + 1))
        case measure => omega
        case rel => exact ⟨k + 1, rfl, by omega, by go_num, (HR.out.store k (by omega) _).congr (fun i hi => by rw [byte_word a 3 (k % 8) (by omega), show 8 * 3 + k % 8 = k by omega]; (repeat' split) <;> first | rfl | (congr 1; omega) | omega), HA.out.set1 (by omega), K.set HB.out (by simp) _, _, (HO.out.stored k _).1⟩
    · go_wp2_with fail
      obtain rfl : k = 32 := by omega
      go_ret
      have hR' : Row8 wr (w.heap.size + 1) 32 (fun i => Y i a) := hR.congr (fun i hi => if_pos (by omega))
      have e := bl_of hO hR'
      subst e
      exact ⟨w.heap.size + 1, by omega, rfl, hO, hR', hB⟩

/-- The bytes of two numbers, one behind the other. -/
def two (a b : Int) (i : Nat) : Int := if i < 32 then Y i a else Y (i - 32) b
theorem two_bd (a b : Int) (i : Nat) : 0 ≤ two a b i ∧ two a b i < 256 := by
  unfold two; split <;> exact ⟨Y_lo _ _, Y_hi _ _⟩
theorem two_at (a b : Int) (j : Nat) (h : j < 64) : (bl a ++ bl b)[j]? = some (Value.int .u8 (two a b j)) := by
  unfold two
  by_cases h0 : j < 32
  · rw [List.getElem?_append_left (by rw [bl_len]; omega), bl_at a j h0, if_pos h0]
  · rw [List.getElem?_append_right (by rw [bl_len]; omega), bl_len, bl_at b _ (by omega), if_neg h0]
theorem two_len (a b : Int) : (bl a ++ bl b).length = 64 := by simp [bl_len]
theorem two_one (a b : Int) : ∀ u ∈ bl a ++ bl b, u.oneCell' = true := by
  intro u hu
  rcases List.mem_append.1 hu with h | h
  · exact bl_one a u h
  · exact bl_one b u h
theorem E_shift2 (f : Nat → Int) (k o : Nat) : ∀ r, E (fun i => f (k + i)) o r = E f (k + o) r
  | 0 => rfl
  | r + 1 => by simp only [E]; rw [E_shift2 f k o r, Nat.add_assoc]
theorem two_low (a b : Int) (j : Nat) (h : j < 4) : E (two a b) (8 * j) 8 = L j a := by
  rw [← E_word a j]
  exact E_congr _ 8 (fun i hi => by unfold two; rw [if_pos (by omega)])
theorem two_high (a b : Int) (j : Nat) : E (two a b) (32 + 8 * j) 8 = L j b := by
  rw [← E_word b j, ← E_shift2]
  exact E_congr _ 8 (fun i hi => by unfold two; rw [if_neg (by omega), show 32 + (8 * j + i) - 32 = 8 * j + i by omega])
theorem news_of {w : World} {g : Nat} {xs : List Value} {f : Nat → Int} {n : Nat} (hR : Row8 w g n f) (hx : ∀ j, j < n → xs[j]? = some (.int .u8 (f j))) (hl : xs.length = n) : ∀ j u, xs[j]? = some u → w.cell? ((⟨g, 0, none⟩ : Addr).add j) = some u := by
  intro j u hu
  have hj : j < n := by
    cases Nat.lt_or_ge j n with
    | inl h => exact h
    | inr h => rw [List.getElem?_eq_none (by omega)] at hu; cases hu
  rw [Go.WideShapes.add_plain, Nat.zero_add, hR.c j hj, ← hx j hj]; exact hu
theorem below_append {w w0 w1 : World} {n : Nat} {v : Value} {xs : List Value} (h : Below w.heap.size w w0) (hown : w0.ownsRow w.heap.size 5 1 v n xs) (hg : w0.grownBy w1 v.ownBlock) : Below w.heap.size w w1 :=
  h.grown hg h.size (fun k hk => (hown.lt k hk).1)
end Go.Proofs.Ytnfgkflhanjjcaa
