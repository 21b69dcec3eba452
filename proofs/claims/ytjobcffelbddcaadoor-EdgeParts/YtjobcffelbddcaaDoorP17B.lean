/- Layer 17: lists of parts; slices.Grow of nothing, and slices.Concat of two lists. -/
import Derived.Test.YtjobcffelbddcaaDoorP17A
import Derived.Lib.AppendZerosOnto
namespace Go.Proofs.YtjobcffelbddcaaDoor
set_option maxRecDepth 100000
open Go.RowKit
attribute [local go_sem ↓] Go.wp_at_zero Go.wp_at_succ

/-- The cells of parts. -/
def pcs : List Pt2 → List Value
  | [] => []
  | q :: Q => pa q ++ pcs Q
theorem pcs_len (Q : List Pt2) : (pcs Q).length = Q.length * 33 := by
  induction Q with
  | nil => rfl
  | cons q Q ih => rw [pcs, List.length_append, pa_len, ih, List.length_cons, Nat.add_mul]; omega
theorem pcs_app (Q R : List Pt2) : pcs (Q ++ R) = pcs Q ++ pcs R := by
  induction Q with
  | nil => rfl
  | cons q Q ih => rw [List.cons_append, pcs, pcs, ih, List.append_assoc]
theorem pcs_one : ∀ (Q : List Pt2), ∀ u ∈ pcs Q, u.oneCell' = true
  | [], u, h => by cases h
  | q :: Q, u, h => by
    rw [pcs] at h
    rcases List.mem_append.1 h with h | h
    · exact pa_one q u h
    · exact pcs_one Q u h
theorem pcs_at : ∀ (Q : List Pt2) (i j : Nat) (q : Pt2), Q[i]? = some q → j < 33 → (pcs Q)[i * 33 + j]? = (pa q)[j]?
  | [], _, _, _, h, _ => by simp at h
  | p :: Q, 0, j, q, h, hj => by
    simp only [List.getElem?_cons_zero, Option.some.injEq] at h
    subst h
    rw [pcs, Nat.zero_mul, Nat.zero_add, List.getElem?_append_left (by rw [pa_len]; exact hj)]
  | p :: Q, i + 1, j, q, h, hj => by
    rw [List.getElem?_cons_succ] at h
    rw [pcs, List.getElem?_append_right (by rw [pa_len]; omega), pa_len, show (i + 1) * 33 + j - 33 = i * 33 + j by omega]
    exact pcs_at Q i j q h hj
/-- Parts in memory. -/
def PLs (w : World) (x : Option Addr) (Q : List Pt2) : Prop := Q = [] ∨ ∃ b o, x = some ⟨b, o, none⟩ ∧ ∀ i q, Q[i]? = some q → w.rangeAt b (o + i * 33) (pa q)
theorem PLs.keep {W w1 : World} {x : Option Addr} {Q : List Pt2} (h : PLs W x Q) (hb : Below W.heap.size W w1) : PLs w1 x Q :=
  h.elim Or.inl fun ⟨b, o, e, hr⟩ => Or.inr ⟨b, o, e, fun i q hq => range_keep (hr i q hq) hb⟩
/-- The first ones. -/
theorem PLs.take {w : World} {x : Option Addr} {Q : List Pt2} (h : PLs w x Q) (k : Nat) : PLs w x (Q.take k) :=
  h.elim (fun e => Or.inl (by rw [e]; exact List.take_nil)) fun ⟨b, o, e, hr⟩ => Or.inr ⟨b, o, e, fun i q hq => hr i q (by
    rw [List.getElem?_take] at hq
    by_cases hi : i < k
    · rw [if_pos hi] at hq; exact hq
    · rw [if_neg hi] at hq; cases hq)⟩
/-- Parts in a row of one's own. -/
abbrev OP (w : World) (base : Nat) (v : Value) (Q : List Pt2) : Prop := w.ownsRow base 42 33 v Q.length (pcs Q)
theorem OP.form {w : World} {base : Nat} {v : Value} {Q : List Pt2} (h : OP w base v Q) : ∃ a cap, v = .slice a Q.length cap ∧ Q.length ≤ cap ∧ cap ≤ maxLen := by
  rcases h.2 with ⟨rfl, h0⟩ | ⟨g, cap, cur, rfl, _, _, h1, h2, _⟩
  · exact ⟨_, _, by rw [h0], by omega, by unfold maxLen; omega⟩
  · exact ⟨_, _, rfl, h1, h2⟩
theorem OP.pls {w : World} {base n cap : Nat} {a : Option Addr} {Q : List Pt2} (h : OP w base (.slice a n cap) Q) : PLs w a Q := by
  by_cases h0 : Q = []
  · exact Or.inl h0
  · have h1 : Q.length ≠ 0 := fun e => h0 (List.length_eq_zero_iff.1 e)
    rcases h.2 with ⟨_, e⟩ | ⟨g, cap', cur, e, hg, _⟩
    · exact absurd e h1
    · cases e
      refine Or.inr ⟨g, 0, rfl, fun i q hq j v hv => ?_⟩
      have hi : i < Q.length := by
        rcases Nat.lt_or_ge i Q.length with h' | h'
        · exact h'
        · rw [List.getElem?_eq_none h'] at hq; cases hq
      have hj : j < 33 := by
        rcases Nat.lt_or_ge j 33 with h' | h'
        · exact h'
        · rw [List.getElem?_eq_none (by rw [pa_len]; exact h')] at hv; cases hv
      rw [show 0 + i * 33 + j = i * 33 + j by omega, h.cellAt (i * 33 + j) (by omega), pcs_at Q i j q hq hj]
      exact hv
theorem OP.below {w0 w w' : World} {v : Value} {Q : List Pt2} (h : OP w w0.heap.size v Q) (hb : Below w0.heap.size w0 w) (hg : w.grownBy w' v.ownBlock) : Below w0.heap.size w0 w' :=
  hb.grown hg hb.size (fun k hk => (h.lt k hk).1)
theorem run_appP {W : World} {base : Nat} {v : Value} {Q R : List Pt2} (hown : OP W base v Q) {x : Option Addr} {m c : Nat} (hm : m = R.length) (hx : PLs W x R) (hb : Q.length + m ≤ 1000000) (hbase : base ≤ W.heap.size) (ty : TypeId) :
    ∃ v' w', (Builtin.append_ #[25, 25] ty #[v, .slice x m c]).run Tryd.prog W = .ok v' w' ∧ OP w' base v' (Q ++ R) ∧ W.grownBy w' v.ownBlock := by
  obtain ⟨i0, hi, hz0, hz1, hz2⟩ := info_parts infoP
  subst hm
  rcases hx with rfl | ⟨b, o, rfl, hr⟩
  · refine ⟨v, W, run_append_zero W base _ _ 42 i0 33 Tryd.underlying25 hi v _ _ hown x c, ?_, World.grownBy.refl _ _⟩
    rw [List.append_nil]
    exact hown
  · obtain ⟨v', w', h1, h2, h3, _⟩ := run_append_own (P := Tryd.prog) W base 25 ty 42 i0 _ 33 40 Tryd.underlying25 hi hz0 hz1 hz2 (by simp [pa_len, Value.cells]) (by decide) v Q.length _ hown ⟨b, o, none⟩ R.length c (pcs R) (pcs_len R) (fun k u hu => by
      have hk : k < R.length * 33 := by
        rcases Nat.lt_or_ge k (R.length * 33) with h' | h'
        · exact h'
        · rw [List.getElem?_eq_none (by rw [pcs_len]; exact h')] at hu; cases hu
      have hq := List.getElem?_eq_getElem (l := R) (i := k / 33) (by omega)
      have e : k = k / 33 * 33 + k % 33 := by omega
      rw [e, pcs_at R (k / 33) (k % 33) _ hq (by omega)] at hu
      have hc := hr (k / 33) _ hq (k % 33) u hu
      have ea : (⟨b, o, none⟩ : Addr).add k = ⟨b, o + k / 33 * 33 + k % 33, none⟩ := by
        rw [Addr.add_mid]
        congr 1
        omega
      rw [ea]
      exact hc) (pcs_one _) (by unfold maxLen; omega) (by omega) hbase
    refine ⟨v', w', h1, ?_, h3⟩
    show w'.ownsRow base 42 33 v' (Q ++ R).length (pcs (Q ++ R))
    rw [List.length_append, pcs_app]
    exact h2
theorem wpList_appP {W : World} {ops : Array Oper} {rest : List Oper} {op : Oper} {a : Act} {Q' : Exit → Act → World → Prop} (hgd : op.guard = none) (s x : Operand)
    (ho : op.op = .call { callee := .builtin .append, args := #[s, x], argTypes := #[25, 25] })
    {base : Nat} {v : Value} {Q R : List Pt2} (hs : a.eval s = v) (hown : OP W base v Q) {y : Option Addr} {m c : Nat} (hx : a.eval x = .slice y m c) (hm : m = R.length) (hy : PLs W y R) (hb : Q.length + m ≤ 1000000) (hbase : base ≤ W.heap.size)
    (h : ∀ v' w', OP w' base v' (Q ++ R) → W.grownBy w' v.ownBlock → wpList Tryd.prog ops Q' rest (a.put op.dst v') w') : wpList Tryd.prog ops Q' (op :: rest) a W := by
  refine wpList_plain hgd fun K hK => ?_
  obtain ⟨v', w', hr, h2, h3⟩ := run_appP (c := c) hown hm hy hb hbase op.type
  unfold Oper.wp execOp
  simp only [ho, resolve, invoke, builtin, Sem.run_bind, Sem.run_pure, Result.andThen_ok, List.map_toArray, List.map_cons, List.map_nil, hs, hx, hr]
  exact hK _ _ (h v' w' h2 h3)
theorem rowP_zero {w w' : World} {g cap : Nat} {cur : Array Value} (hg : w.heap.size ≤ g) (h : w'.heap[g]? = some (.cells cur 42 (0, 0))) (hc : cap ≤ maxLen) (hs : cur.size = cap * 33) : OP w' w.heap.size (.slice (some ⟨g, 0, none⟩) 0 cap) [] :=
  ⟨rfl, Or.inr ⟨g, cap, cur, rfl, hg, h, Nat.zero_le _, hc, hs, by simp [pcs]⟩⟩
def GwP (w : World) (e : Ending) (w' : World) : Prop := ∃ v, e = .returned v ∧ OP w' w.heap.size v [] ∧ Below w.heap.size w w'
set_option maxHeartbeats 4000000 in
set_option maxRecDepth 100000 in
theorem growP {k : Nat} (h0 : 0 < k) (hk : k ≤ 1000000) (w : World) : Calls Tryd.prog 32 #[.slice none 0 0, .int .i64 (k : Int)] w (GwP w) := by
  obtain ⟨i0, hi, hz0, hz1, hz2⟩ := info_parts infoP
  have h1 : ¬ ((k : Int) < 0) := by omega
  have h3 : wrap64 ((k : Int)) = (k : Int) := by unfold wrap64; omega
  have h4 : (k : Int) > 0 := by omega
  have hrz : ∀ ty, (Builtin.append_ #[25, 3] ty #[.slice none 0 0, .int .i64 (k : Int)]).run Tryd.prog w =
      .ok (.slice (some ⟨w.heap.size, 0, none⟩) (0 + k) (grownCap w (0 + k) 0 42)) (w.drew.alloc (.cells (([] : List Value).toArray ++ Builtin.zeroCells (pv z17).cells k ++ Builtin.zeroCells (pv z17).cells (grownCap w (0 + k) 0 42 - (0 + k))) 42)) := fun ty =>
    Lib.run_append_grow_zeros w 25 3 ty 42 i0 (pv z17) .i64 .i64 Tryd.underlying25 Tryd.underlying3 hi hz0 none 0 0 [] (run_firstCells_none w.drew i0.size 0 0 0) k h0 (by rw [hz1]; decide) (by omega) (by omega) (by rw [hz2]; omega) (growslice_fits (by omega) (by rw [hz2]; omega))
  have hG63 : grownCap w (0 + k) 0 42 ≤ maxLen := grownCap_le_maxLen w (0 + k) 0 42 (by unfold maxLen; omega)
  have hGn : 0 + k ≤ grownCap w (0 + k) 0 42 := grownCap_ge w _ _ _
  obtain ⟨G, hG⟩ : ∃ G, G = grownCap w (0 + k) 0 42 := ⟨_, rfl⟩
  rw [← hG] at hrz hGn hG63
  have hsz : (([] : List Value).toArray ++ Builtin.zeroCells (pv z17).cells k ++ Builtin.zeroCells (pv z17).cells (G - (0 + k))).size = G * 33 := by
    simp [Builtin.zeroCells, Value.cells, pa_len]
    omega
  obtain ⟨C, hC⟩ : ∃ C, C = (([] : List Value).toArray ++ Builtin.zeroCells (pv z17).cells k ++ Builtin.zeroCells (pv z17).cells (G - (0 + k))) := ⟨_, rfl⟩
  rw [← hC] at hrz hsz
  have hG64 : G ≤ 9223372036854775807 := by unfold maxLen at hG63; omega
  clear hC hG
  go_enter Tryd.func32, Tryd.ntmps32
  go_wp2_with (at_builtin; refine Lib.wpList_append_run _ rfl _ _ _ _ rfl _ _ rfl rfl _ _ (hrz _) ?_)
  all_goals
    go_ret
    exact ⟨_, rfl, rowP_zero (Nat.le_refl _) (Array.getElem?_push_size ..) hG63 hsz, Below.alloc (Below.refl _ w).drew (by simp) _⟩
/-- Two lists, one behind the other, in memory that was made. -/
def CcP (w : World) (Q : List Pt2) (e : Ending) (w' : World) : Prop := ∃ v, e = .returned v ∧ OP w' w.heap.size v Q ∧ Below w.heap.size w w'
set_option maxHeartbeats 8000000 in
set_option maxRecDepth 100000 in
theorem concat_two {w : World} {q n c m d : Nat} {x y : Option Addr} {Q R : List Pt2} (h0 : w.cell? ⟨q, 0, none⟩ = some (.slice x n c)) (h1 : w.cell? ⟨q, 1, none⟩ = some (.slice y m d)) (hn : n = Q.length) (hm : m = R.length) (hQ : PLs w x Q) (hR : PLs w y R) (hl : n + m ≤ 1000) (hm0 : 0 < m) :
    Calls Tryd.prog 24 #[.slice (some ⟨q, 0, none⟩) 2 2] w (CcP w (Q ++ R)) := by
  have HQ := hide hQ
  have HR := hide hR
  have HN := hide (And.intro hn hm)
  have hw1 : wrap64 ((n : Int) + (m : Int)) = (n : Int) + (m : Int) := by unfold wrap64; omega
  have hw0 : wrap64 ((n : Int)) = (n : Int) := by unfold wrap64; omega
  have hp0 : ¬ ((n : Int) < 0) := by omega
  have hp1 : ¬ ((n : Int) + (m : Int) < 0) := by omega
  have HG := hide (growP (k := n + m) (by omega) (by omega) w)
  rw [show ((n + m : Nat) : Int) = (n : Int) + (m : Int) by omega] at HG
  clear hQ hR hn hm
  have HL := hide hl
  clear hl hm0
  go_enter Tryd.func24, Tryd.ntmps24
  go_wp2_with fail
  go_loopg [3, 11] 2 (fun g s3 s11 wr => wr = w ∧ ((g = 2 ∧ s3 = .int .i64 0 ∧ s11 = .int .i64 0) ∨ (g = 1 ∧ s3 = .int .i64 (n : Int) ∧ s11 = .int .i64 1) ∨ (g = 0 ∧ s3 = .int .i64 ((n : Int) + (m : Int)) ∧ s11 = .int .i64 2)))
  case atStart => exact ⟨rfl, Or.inl ⟨rfl, rfl, rfl⟩⟩
  case round =>
    obtain ⟨rfl, ⟨rfl, rfl, rfl⟩ | ⟨rfl, rfl, rfl⟩ | ⟨rfl, rfl, rfl⟩⟩ := hrel
    · go_wp2_with fail
      go_roundg 1
      case measure => omega
      case rel => exact ⟨rfl, Or.inr (Or.inl ⟨rfl, by rw [hw0], rfl⟩)⟩
    · go_wp2_with fail
      go_roundg 0
      case measure => omega
      case rel => exact ⟨rfl, Or.inr (Or.inr ⟨rfl, by rw [hw1], rfl⟩)⟩
    · go_wp2_with fail
      with_reducible refine Calls.mono HG.out ?_
      rintro e W1 hG1
      obtain ⟨v1, rfl, hO1, hB1⟩ := hG1
      have HO1 := hide hO1
      have HB1 := hide hB1
      clear hO1 hB1 HG
      go_wp2_with fail
      go_loopg [6, 27] 2 (fun g s6 s27 wr2 => Below wr.heap.size wr wr2 ∧ ((g = 2 ∧ OP wr2 wr.heap.size s6 [] ∧ s27 = .int .i64 0) ∨ (g = 1 ∧ OP wr2 wr.heap.size s6 Q ∧ s27 = .int .i64 1) ∨ (g = 0 ∧ OP wr2 wr.heap.size s6 (Q ++ R) ∧ s27 = .int .i64 2)))
      case atStart => exact ⟨HB1.out, Or.inl ⟨rfl, HO1.out, rfl⟩⟩
      case round =>
        obtain ⟨hB, ⟨rfl, hO, rfl⟩ | ⟨rfl, hO, rfl⟩ | ⟨rfl, hO, rfl⟩⟩ := hrel
        · have c0 := later hB h0
          have HB := hide hB
          have HO := hide hO
          clear hB hO
          go_wp2_with (at_builtin; refine wpList_appP rfl _ _ rfl rfl HO.out rfl HN.out.1 (HQ.out.keep HB.out) (by have := HL.out; show 0 + n ≤ _; omega) HB.out.size ?_; intro v2 w2 hO2 hg2; have HB2 := hide (OP.below HO.out HB.out hg2); have HO2 := hide hO2; clear hO2 hg2)
          go_roundg 1
          case measure => omega
          case rel => exact ⟨HB2.out, Or.inr (Or.inl ⟨rfl, HO2.out, rfl⟩)⟩
        · have c0 := later hB h1
          have HB := hide hB
          have HO := hide hO
          clear hB hO
          go_wp2_with (at_builtin; refine wpList_appP rfl _ _ rfl rfl HO.out rfl HN.out.2 (HR.out.keep HB.out) (by have := HL.out; have := HN.out.1; omega) HB.out.size ?_; intro v2 w2 hO2 hg2; have HB2 := hide (OP.below HO.out HB.out hg2); have HO2 := hide hO2; clear hO2 hg2)
          go_roundg 0
          case measure => omega
          case rel => exact ⟨HB2.out, Or.inr (Or.inr ⟨rfl, HO2.out, rfl⟩)⟩
        · have HB := hide hB
          have HO := hide hO
          clear hB hO
          go_wp2_with fail
          go_ret
          exact ⟨_, rfl, HO.out, HB.out⟩
end Go.Proofs.YtjobcffelbddcaaDoor
