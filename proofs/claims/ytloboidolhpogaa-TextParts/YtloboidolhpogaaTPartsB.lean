/- Two rows of bytes, one behind the other, and the text of both. -/
import Derived.Test.YtloboidolhpogaaPAny
import Derived.Deep.RegionHeld3
namespace Go.Proofs.Ytloboidolhpogaa
open Go.RowKit
attribute [local go_sem ↓] Go.wp_at_zero Go.wp_at_succ

theorem encW_part {f g h : Nat → Nat} {q : Nat} (h1 : ∀ i, i < 3 * q → h i = f i) (h2 : ∀ i, h (3 * q + i) = g i) : ∀ r, encW h (q + r) = encW f q ++ encW g r
  | 0 => by simp only [Nat.add_zero, encW, List.append_nil]; exact encW_congr h1
  | r + 1 => by
    rw [← Nat.add_assoc]
    simp only [encW]
    rw [encW_part h1 h2 r, List.append_assoc, show 3 * (q + r) = 3 * q + 3 * r by omega, show 3 * q + 3 * r + 1 = 3 * q + (3 * r + 1) by omega, show 3 * q + 3 * r + 2 = 3 * q + (3 * r + 2) by omega, h2, h2, h2]
theorem encT_part {g h : Nat → Nat} {q : Nat} (h2 : ∀ i, h (3 * q + i) = g i) (m : Nat) : encT h (3 * q + m) = encT g m := by
  unfold encT
  rcases (show m % 3 = 0 ∨ m % 3 = 1 ∨ m % 3 = 2 by omega) with e | e | e
  · rw [if_neg (by omega), if_neg (by omega), if_neg (by omega), if_neg (by omega)]
  · rw [if_pos (by omega), if_pos e, show 3 * q + m - 1 = 3 * q + (m - 1) by omega, h2]
  · rw [if_neg (by omega), if_pos (by omega), if_neg (by omega), if_pos e, show 3 * q + m - 1 = 3 * q + (m - 1) by omega, show 3 * q + m - 2 = 3 * q + (m - 2) by omega, h2, h2]
theorem enc_part {f g h : Nat → Nat} {q m : Nat} (h1 : ∀ i, i < 3 * q → h i = f i) (h2 : ∀ i, h (3 * q + i) = g i) : enc h (3 * q + m) = enc f (3 * q) ++ enc g m := by
  unfold enc
  rw [encT_part h2, show (3 * q + m) / 3 = q + m / 3 by omega, encW_part h1 h2, show 3 * q / 3 = q by omega, List.append_assoc]
  congr 1
  unfold encT
  rw [if_neg (by omega), if_neg (by omega), List.append_nil]
/-- The first n bytes of f, as a list. -/
def fl (f : Nat → Nat) (n : Nat) : List Nat := (List.range n).map f
theorem fl_len (f : Nat → Nat) (n : Nat) : (fl f n).length = n := by simp [fl]
theorem fl_at (f : Nat → Nat) {n i : Nat} (h : i < n) : (fl f n)[i]? = some (f i) := by simp [fl, h]
theorem fl_lt {f : Nat → Nat} (hf : ∀ i, f i < 256) (n : Nat) : ∀ x ∈ fl f n, x < 256 := by
  intro x hx
  simp only [fl, List.mem_map] at hx
  obtain ⟨i, _, rfl⟩ := hx
  exact hf i
theorem enc_both {f g : Nat → Nat} {q m : Nat} : enc (fun i => (fl f (3 * q) ++ fl g m).getD i 0) (3 * q + m) = enc f (3 * q) ++ enc g m := by
  rw [enc_congr (g := fun i => if i < 3 * q then f i else g (i - 3 * q)) (fun i hi => ?_)]
  · exact enc_part (fun i hi => by simp only [if_pos hi]) (fun i => by simp only [if_neg (show ¬ 3 * q + i < 3 * q by omega), show 3 * q + i - 3 * q = i by omega])
  · rw [List.getD_eq_getElem?_getD]
    by_cases h : i < 3 * q
    · rw [if_pos h, List.getElem?_append_left (by rw [fl_len]; exact h), fl_at f h]; rfl
    · rw [if_neg h, List.getElem?_append_right (by rw [fl_len]; omega), fl_len, fl_at g (by omega)]; rfl
theorem cells8_len (l : List Nat) : (cells8 l).length = l.length := by simp [cells8]
theorem cells8_one (l : List Nat) : ∀ u ∈ cells8 l, u.oneCell' = true := by
  intro u hu
  simp only [cells8, List.mem_map] at hu
  obtain ⟨i, _, rfl⟩ := hu
  rfl
theorem run_append_zero {P : Program} (w : World) (base : Nat) (t ty e : TypeId) (i : TypeInfo) (size : Nat) (ht : P.underlying t = some (.slice e)) (hi : P.info? e = some i)
    (v : Value) (n : Nat) (xs : List Value) (hown : w.ownsRow base e size v n xs) (x : Option Addr) (c : Nat) :
    (Builtin.append_ #[t, t] ty #[v, .slice x 0 c]).run P w = .ok v w := by
  rcases hown.2 with ⟨rfl, rfl⟩ | ⟨g, cap, cur, rfl, _, _, hnc, _⟩
  · cases x <;> simp [Builtin.append_, run_underlying ht, sizeOf, typeInfo, hi, Builtin.lenOf, Builtin.firstCells, loadCells, loadCellsFrom]
  · cases x <;> simp [Builtin.append_, run_underlying ht, sizeOf, typeInfo, hi, Builtin.lenOf, Builtin.firstCells, hnc, storeCells, loadCells, loadCellsFrom]
/-- Bytes that are appended to a row of one's own. -/
theorem run_app {W : World} {base : Nat} {v : Value} {n : Nat} {l : List Nat} (hown : W.ownsRow base 5 1 v n (cells8 l)) {x : Option Addr} {m c : Nat} {f : Nat → Nat} (hx : BA W x m f) (hb : n + m ≤ 2000) (hbase : base ≤ W.heap.size) (ty : TypeId) :
    ∃ v' w', (Builtin.append_ #[22, 22] ty #[v, .slice x m c]).run Try.prog W = .ok v' w' ∧ w'.ownsRow base 5 1 v' (n + m) (cells8 (l ++ fl f m)) ∧ W.grownBy w' v.ownBlock := by
  obtain ⟨i0, hi, hz0, hz1, hz2⟩ := info_parts info8
  rcases hx.at_ with rfl | ⟨b, o, rfl, hr⟩
  · refine ⟨v, W, run_append_zero W base _ _ 5 i0 1 Try.underlying22 hi v n _ hown x c, ?_, World.grownBy.refl _ _⟩
    rw [show fl f 0 = [] from rfl, List.append_nil]
    exact hown
  · obtain ⟨v', w', h1, h2, h3, _⟩ := run_append_own (P := Try.prog) W base 22 ty 5 i0 (.int .u8 0) 1 1 Try.underlying22 hi hz0 hz1 hz2 rfl (by decide) v n _ hown ⟨b, o, none⟩ m c (cells8 (fl f m)) (by rw [cells8_len, fl_len]; omega) (fun j u hu => by
      have hj : j < m := by
        rcases Nat.lt_or_ge j m with h' | h'
        · exact h'
        · rw [List.getElem?_eq_none (by rw [cells8_len, fl_len]; exact h')] at hu; cases hu
      have hc := hr.c j hj
      rw [cells8_at _ j (by rw [fl_len]; exact hj), List.getD_eq_getElem?_getD, fl_at f hj] at hu
      have ea : (⟨b, o, none⟩ : Addr).add j = ⟨b, o + j, none⟩ := by unfold Addr.add; split <;> simp_all
      rw [ea, hc]
      simpa using hu) (cells8_one _) (by unfold maxLen; omega) (by omega) hbase
    refine ⟨v', w', h1, ?_, h3⟩
    rw [show cells8 (l ++ fl f m) = cells8 l ++ cells8 (fl f m) from List.map_append]
    exact h2
/-- The same, at a step of a region that draws its order. -/
theorem step_app {W : World} {ops : Array Oper} {op : Oper} {a : Act} {K : Act → World → Prop} {Q : Exit → Act → World → Prop} {E : Prop} (hgd : op.guard = none) (s x : Operand)
    (ho : op.op = .call { callee := .builtin .append, args := #[s, x], argTypes := #[22, 22] })
    {base : Nat} {v : Value} {n : Nat} {l : List Nat} (hs : a.eval s = v) (hown : W.ownsRow base 5 1 v n (cells8 l)) {y : Option Addr} {m c : Nat} {f : Nat → Nat} (hx : a.eval x = .slice y m c) (hy : BA W y m f) (hb : n + m ≤ 2000) (hbase : base ≤ W.heap.size)
    (h : ∀ v' w', w'.ownsRow base 5 1 v' (n + m) (cells8 (l ++ fl f m)) → W.grownBy w' v.ownBlock → K (a.put op.dst v') w') :
    if Region.wanted op (yielded ops a.tmps) = true then Oper.wp Try.prog op a W K Q else E := by
  have hw : Region.wanted op (yielded ops a.tmps) = true := by simp [Region.wanted, hgd]
  rw [if_pos hw]
  obtain ⟨v', w', hr, h2, h3⟩ := run_app (c := c) hown hy hb hbase op.type
  unfold Oper.wp execOp
  simp only [ho, resolve, invoke, builtin, Sem.run_bind, Sem.run_pure, Result.andThen_ok, List.map_toArray, List.map_cons, List.map_nil, hs, hx, hr]
  exact h v' w' h2 h3
/-- The text of a row of one's own. -/
theorem encode_own {w : World} {base : Nat} {v : Value} {n : Nat} {l : List Nat} (h : w.ownsRow base 5 1 v n (cells8 l)) (hl : ∀ x ∈ l, x < 256) (hn : n ≤ 1000) :
    Calls Try.prog 10 #[v] w fun e w' => e = .returned (.string (tx (enc (fun i => l.getD i 0) n))) ∧ Below w.heap.size w w' := by
  have hlen : l.length = n := by have := h.1; rw [cells8_len] at this; omega
  by_cases h0 : n = 0
  · obtain ⟨a, cap, rfl⟩ := own_shape h
    subst h0
    exact encode_none a cap w
  · obtain ⟨g, cap, rfl, _, hR⟩ := own_rd (f := fun i => ((l.getD i 0 : Nat) : Int)) h (fun j hj => cells8_at l j (by omega)) (by omega)
    exact encode_some (getD_lt hl) hn (own_cap h) hR.rd
theorem below_append {w0 w w' : World} {v : Value} {n : Nat} {xs : List Value} (h : Below w0.heap.size w0 w) (ho : w.ownsRow w0.heap.size 5 1 v n xs) (hg : w.grownBy w' v.ownBlock) : Below w0.heap.size w0 w' :=
  h.grown hg h.size (fun k hk => (ho.lt k hk).1)
theorem own_empty (w : World) (base : Nat) (hb : base ≤ w.heap.size) : (w.alloc (.cells #[] 5)).ownsRow base 5 1 (.slice (some ⟨w.heap.size, 0, none⟩) 0 0) 0 (cells8 []) :=
  World.ownsRow_made w #[] 0 hb (by decide) rfl
end Go.Proofs.Ytloboidolhpogaa
