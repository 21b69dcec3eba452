/- Lists of parts that are appended to a list of one's own (no function of layer 7 is named). -/
import Derived.Test.YtiahjnfopeiliaaDoorP7Str
namespace Go.Proofs.YtiahjnfopeiliaaDoor
open Go.RowKit

theorem infoBy : (Tryd.prog.info? 22).map (fun i => (i.zero, i.size, i.bytes)) = some (some (.slice none 0 0), 1, 24) := by kernel_rfl
/-- Parts, as cells. -/
def pcells (A : Nat → Option Addr) (L C : Nat → Nat) (k : Nat) : List Value := (List.range k).map (fun i => Value.slice (A i) (L i) (C i))
theorem pcells_len (A : Nat → Option Addr) (L C : Nat → Nat) (k : Nat) : (pcells A L C k).length = k := by simp [pcells]
theorem pcells_at (A : Nat → Option Addr) (L C : Nat → Nat) {k i : Nat} (h : i < k) : (pcells A L C k)[i]? = some (.slice (A i) (L i) (C i)) := by simp [pcells, h]
theorem pcells_one (A : Nat → Option Addr) (L C : Nat → Nat) (k : Nat) : ∀ u ∈ pcells A L C k, u.oneCell' = true := by
  intro u hu
  simp only [pcells, List.mem_map] at hu
  obtain ⟨i, _, rfl⟩ := hu
  rfl
theorem run_appL {W : World} {base : Nat} {v : Value} {n : Nat} {xs : List Value} (hown : W.ownsRow base 22 1 v n xs) {x : Option Addr} {k c : Nat} {A : Nat → Option Addr} {L C : Nat → Nat} {G : Nat → Nat → Nat} (hx : PL W x k A L C G) (hb : n + k ≤ 1100000) (hbase : base ≤ W.heap.size) (ty : TypeId) :
    ∃ v' w', (Builtin.append_ #[39, 39] ty #[v, .slice x k c]).run Tryd.prog W = .ok v' w' ∧ w'.ownsRow base 22 1 v' (n + k) (xs ++ pcells A L C k) ∧ W.grownBy w' v.ownBlock := by
  obtain ⟨i0, hi, hz0, hz1, hz2⟩ := info_parts infoBy
  rcases hx.at_ with rfl | ⟨b, o, rfl, hr⟩
  · refine ⟨v, W, run_append_zero W base _ _ 22 i0 1 Tryd.underlying39 hi v n _ hown x c, ?_, World.grownBy.refl _ _⟩
    rw [show pcells A L C 0 = [] from rfl, List.append_nil]
    exact hown
  · obtain ⟨v', w', h1, h2, h3, _⟩ := run_append_own (P := Tryd.prog) W base 39 ty 22 i0 (.slice none 0 0) 1 24 Tryd.underlying39 hi hz0 hz1 hz2 rfl (by decide) v n _ hown ⟨b, o, none⟩ k c (pcells A L C k) (by rw [pcells_len]; omega) (fun j u hu => by
      have hj : j < k := by
        rcases Nat.lt_or_ge j k with h' | h'
        · exact h'
        · rw [List.getElem?_eq_none (by rw [pcells_len]; exact h')] at hu; cases hu
      rw [pcells_at A L C hj] at hu
      rw [Addr.add_mid, hr j hj]
      exact hu) (pcells_one _ _ _ _) (by unfold maxLen; omega) (by omega) hbase
    exact ⟨v', w', h1, h2, h3⟩
theorem wpList_appL {W : World} {ops : Array Oper} {rest : List Oper} {op : Oper} {a : Act} {Q : Exit → Act → World → Prop} (hgd : op.guard = none) (s x : Operand)
    (ho : op.op = .call { callee := .builtin .append, args := #[s, x], argTypes := #[39, 39] })
    {base : Nat} {v : Value} {n : Nat} {xs : List Value} (hs : a.eval s = v) (hown : W.ownsRow base 22 1 v n xs) {y : Option Addr} {k c : Nat} {A : Nat → Option Addr} {L C : Nat → Nat} {G : Nat → Nat → Nat} (hx : a.eval x = .slice y k c) (hy : PL W y k A L C G) (hb : n + k ≤ 1100000) (hbase : base ≤ W.heap.size)
    (h : ∀ v' w', w'.ownsRow base 22 1 v' (n + k) (xs ++ pcells A L C k) → W.grownBy w' v.ownBlock → wpList Tryd.prog ops Q rest (a.put op.dst v') w') : wpList Tryd.prog ops Q (op :: rest) a W := by
  refine wpList_plain hgd fun K hK => ?_
  obtain ⟨v', w', hr, h2, h3⟩ := run_appL (c := c) hown hy hb hbase op.type
  unfold Oper.wp execOp
  simp only [ho, resolve, invoke, builtin, Sem.run_bind, Sem.run_pure, Result.andThen_ok, List.map_toArray, List.map_cons, List.map_nil, hs, hx, hr]
  exact hK _ _ (h v' w' h2 h3)
theorem own_two (w : World) (base q : Nat) (hb : base ≤ w.heap.size) (hq : q = w.heap.size) (x1 x2 : Value) : (w.alloc (.cells #[x1, x2] 22)).ownsRow base 22 1 (.slice (some ⟨q, 0, none⟩) 2 2) 2 [x1, x2] := by
  subst hq
  exact ⟨rfl, .inr ⟨w.heap.size, 2, #[x1, x2], rfl, hb, heap_alloc_new w _, Nat.le_refl _, by unfold maxLen; omega, rfl, rfl⟩⟩
/-- Two, and then the others. -/
def pre2 {α : Type} (a b : α) (f : Nat → α) : Nat → α
  | 0 => a
  | 1 => b
  | i + 2 => f i
theorem lenF_pre2 (n m : Nat) (L : Nat → Nat) : ∀ k, lenF (pre2 n m L) (k + 2) = n + m + lenF L k
  | 0 => by simp only [lenF, pre2]; omega
  | k + 1 => by
    have ih := lenF_pre2 n m L k
    rw [show k + 1 + 2 = (k + 2) + 1 from rfl, lenF, ih, lenF, pre2]
    omega
theorem catF_pre2 (n m : Nat) (L : Nat → Nat) (g h : Nat → Nat) (G : Nat → Nat → Nat) : ∀ k i, i < n + m + lenF L k → catF (pre2 n m L) (pre2 g h G) (k + 2) i = cat (cat g n h) (n + m) (catF L G k) i
  | 0, i, hi => by
    simp only [lenF] at hi
    have e : catF (pre2 n m L) (pre2 g h G) (0 + 2) = cat g n h := by simp only [catF, lenF, pre2, cat_zero, Nat.zero_add]
    rw [e]
    show _ = (if i < n + m then cat g n h i else catF L G 0 (i - (n + m)))
    rw [if_pos (by omega)]
  | k + 1, i, hi => by
    have ih := catF_pre2 n m L g h G k
    have e : catF (pre2 n m L) (pre2 g h G) (k + 1 + 2) = cat (catF (pre2 n m L) (pre2 g h G) (k + 2)) (lenF (pre2 n m L) (k + 2)) (G k) := rfl
    have e2 : catF L G (k + 1) = cat (catF L G k) (lenF L k) (G k) := rfl
    rw [e, lenF_pre2, e2, ← cat_assoc]
    show (if i < n + m + lenF L k then _ else _) = (if i < n + m + lenF L k then _ else _)
    by_cases h1 : i < n + m + lenF L k
    · rw [if_pos h1, if_pos h1]; exact ih i h1
    · rw [if_neg h1, if_neg h1]
/-- A list of one's own behind which parts were appended, as parts. -/
theorem own_pl {w : World} {base n k : Nat} {v : Value} {xs : List Value} {A : Nat → Option Addr} {L C : Nat → Nat} {G : Nat → Nat → Nat} (h : w.ownsRow base 22 1 v n xs) (hn : n = k) (hx : ∀ i, i < k → xs[i]? = some (.slice (A i) (L i) (C i))) (hb : ∀ i, i < k → BA w (A i) (L i) (G i)) (hc : ∀ i, i < k → L i ≤ C i ∧ C i ≤ maxLen) :
    ∃ x c, v = .slice x k c ∧ PL w x k A L C G := by
  subst hn
  rcases h.2 with ⟨rfl, rfl⟩ | ⟨g, cap, cur, rfl, _⟩
  · exact ⟨_, _, rfl, hb, hc, Or.inl rfl⟩
  · exact ⟨_, _, rfl, hb, hc, Or.inr ⟨g, 0, rfl, fun i hi => by rw [Nat.zero_add, h.cellAt i (by omega)]; exact hx i hi⟩⟩
end Go.Proofs.YtiahjnfopeiliaaDoor
