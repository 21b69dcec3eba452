/- Lists of hashes in rows of one's own, and two lists compared. -/
import Derived.Test.YteplklbpehkdjaaDoorM16
import Derived.Test.YteplklbpehkdjaaDoorS5Eq
import Derived.Test.YteplklbpehkdjaaDoorP5LawsC
import Derived.Deep.MidRow
namespace Go.Proofs.YteplklbpehkdjaaDoor
set_option maxRecDepth 100000
open Go.RowKit

theorem infoHv : (Tryd.prog.info? 32).map (fun i => (i.zero, i.size, i.bytes)) = some (some (.agg (ab (fun _ => 0) 32).toArray), 32, 32) := by kernel_rfl
/-- The cells of n hashes. -/
def hfl (F : Nat → Nat → Nat) (n : Nat) : List Nat := fl (fun k => F (k / 32) (k % 32)) (n * 32)
def hc (F : Nat → Nat → Nat) (n : Nat) : List Value := cells8 (hfl F n)
theorem hc_len (F : Nat → Nat → Nat) (n : Nat) : (hc F n).length = n * 32 := by unfold hc hfl; rw [cells8_len, fl_len]
theorem hc_get (F : Nat → Nat → Nat) {n k : Nat} (h : k < n * 32) : (hc F n)[k]? = some (.int .u8 ((F (k / 32) (k % 32) : Nat) : Int)) := by
  unfold hc hfl
  rw [cells8_at _ k (by rw [fl_len]; exact h), List.getD_eq_getElem?_getD, fl_at _ h]
  rfl
theorem hc_at (F : Nat → Nat → Nat) {n i j : Nat} (hi : i < n) (hj : j < 32) : (hc F n)[i * 32 + j]? = some (.int .u8 ((F i j : Nat) : Int)) := by
  rw [hc_get F (n := n) (by omega), show (i * 32 + j) / 32 = i by omega, show (i * 32 + j) % 32 = j by omega]
/-- F's first n hashes, then G's. -/
def hcat (F : Nat → Nat → Nat) (n : Nat) (G : Nat → Nat → Nat) : Nat → Nat → Nat := fun i => if i < n then F i else G (i - n)
theorem hcat_low (F : Nat → Nat → Nat) {n i : Nat} (G : Nat → Nat → Nat) (h : i < n) : hcat F n G i = F i := if_pos h
theorem hcat_up (F : Nat → Nat → Nat) {n : Nat} (G : Nat → Nat → Nat) (i : Nat) : hcat F n G (n + i) = G i := by
  unfold hcat
  rw [if_neg (by omega), Nat.add_sub_cancel_left]
theorem hcat_lt {F G : Nat → Nat → Nat} (hF : ∀ i j, F i j < 256) (hG : ∀ i j, G i j < 256) (n i j : Nat) : hcat F n G i j < 256 := by
  unfold hcat
  split
  · exact hF _ _
  · exact hG _ _
theorem hc_cat (F G : Nat → Nat → Nat) (n m : Nat) : hc F n ++ hc G m = hc (hcat F n G) (n + m) := by
  unfold hc hfl
  rw [show ∀ l1 l2, cells8 l1 ++ cells8 l2 = cells8 (l1 ++ l2) from fun l1 l2 => List.map_append.symm, fl_cat, Nat.add_mul]
  congr 2
  funext k
  unfold cat hcat
  by_cases h : k < n * 32
  · rw [if_pos h, if_pos (by omega)]
  · rw [if_neg h, if_neg (by omega)]
    show G ((k - n * 32) / 32) ((k - n * 32) % 32) = _
    rw [show (k - n * 32) / 32 = k / 32 - n by omega, show (k - n * 32) % 32 = k % 32 by omega]
/-- n hashes in a row of one's own. -/
abbrev OH (w : World) (base : Nat) (v : Value) (n : Nat) (F : Nat → Nat → Nat) : Prop := w.ownsRow base 32 32 v n (hc F n)
theorem OH.keep {w w' : World} {base n : Nat} {v : Value} {F : Nat → Nat → Nat} (h : OH w base v n F) (hb : Below w.heap.size w w') : OH w' base v n F := by
  refine ⟨h.1, ?_⟩
  rcases h.2 with h0 | ⟨g, cap, cur, rfl, hg, hh, h1, h2, h3, h4⟩
  · exact Or.inl h0
  · exact Or.inr ⟨g, cap, cur, rfl, hg, by rw [hb.block g (h.lt g rfl).2]; exact hh, h1, h2, h3, h4⟩
theorem OH.form {w : World} {base n : Nat} {v : Value} {F : Nat → Nat → Nat} (h : OH w base v n F) : ∃ a cap, v = .slice a n cap ∧ n ≤ cap ∧ cap ≤ maxLen := by
  rcases h.2 with ⟨rfl, rfl⟩ | ⟨g, cap, cur, rfl, _, _, h1, h2, _⟩
  · exact ⟨_, _, rfl, Nat.le_refl _, by unfold maxLen; omega⟩
  · exact ⟨_, _, rfl, h1, h2⟩
theorem OH.hl {w : World} {base n cap : Nat} {a : Option Addr} {F : Nat → Nat → Nat} (h : OH w base (.slice a n cap) n F) (hF : ∀ i j, F i j < 256) : HL w a n F := by
  refine ⟨hF, ?_⟩
  by_cases h0 : n = 0
  · exact Or.inl h0
  · right
    rcases h.2 with ⟨e, _⟩ | ⟨g, cap', cur, e, hg, _⟩
    · cases e; omega
    · cases e
      refine ⟨g, 0, rfl, fun i hi j v hv => ?_⟩
      have hj : j < 32 := by
        rcases Nat.lt_or_ge j 32 with h' | h'
        · exact h'
        · rw [List.getElem?_eq_none (by rw [ab_len]; exact h')] at hv; cases hv
      rw [ab_at _ hj] at hv
      rw [show 0 + i * 32 + j = i * 32 + j by omega, h.cellAt (i * 32 + j) (by omega), hc_at F hi hj]
      exact hv
theorem OH.nil (w : World) (base : Nat) (F : Nat → Nat → Nat) : OH w base (.slice none 0 0) 0 F := World.ownsRow_nil _ _ _ _
theorem OH.empty (w : World) (base : Nat) (hb : base ≤ w.heap.size) (F : Nat → Nat → Nat) : OH (w.alloc (.cells #[] 32)) base (.slice (some ⟨w.heap.size, 0, none⟩) 0 0) 0 F :=
  World.ownsRow_made w #[] 0 hb (by decide) rfl
/-- Hashes that are appended to a row of one's own. -/
theorem run_appH {W : World} {base : Nat} {v : Value} {n : Nat} {F G : Nat → Nat → Nat} (hown : OH W base v n F) {x : Option Addr} {m c : Nat} (hx : HL W x m G) (hb : n + m ≤ 1000000) (hbase : base ≤ W.heap.size) (ty : TypeId) :
    ∃ v' w', (Builtin.append_ #[22, 22] ty #[v, .slice x m c]).run Tryd.prog W = .ok v' w' ∧ OH w' base v' (n + m) (hcat F n G) ∧ W.grownBy w' v.ownBlock := by
  obtain ⟨i0, hi, hz0, hz1, hz2⟩ := info_parts infoHv
  rcases hx.at_ with rfl | ⟨b, o, rfl, hr⟩
  · refine ⟨v, W, run_append_zero W base _ _ 32 i0 32 Tryd.underlying22 hi v n _ hown x c, ?_, World.grownBy.refl _ _⟩
    have e : hc F n = hc (hcat F n G) (n + 0) := by
      rw [← hc_cat, show hc G 0 = [] by unfold hc hfl fl; rfl, List.append_nil]
    show W.ownsRow base 32 32 v (n + 0) (hc (hcat F n G) (n + 0))
    rw [← e]
    exact hown
  · obtain ⟨v', w', h1, h2, h3, _⟩ := run_append_own (P := Tryd.prog) W base 22 ty 32 i0 _ 32 32 Tryd.underlying22 hi hz0 hz1 hz2 (by simp [ab_len, Value.cells]) (by decide) v n _ hown ⟨b, o, none⟩ m c (hc G m) (hc_len G m) (fun k u hu => by
      have hk : k < m * 32 := by
        rcases Nat.lt_or_ge k (m * 32) with h' | h'
        · exact h'
        · rw [List.getElem?_eq_none (by rw [hc_len]; exact h')] at hu; cases hu
      rw [hc_get G hk] at hu
      have hc := hr (k / 32) (by omega) (k % 32) _ (ab_at (G (k / 32)) (by omega))
      have ea : (⟨b, o, none⟩ : Addr).add k = ⟨b, o + k / 32 * 32 + k % 32, none⟩ := by
        rw [Addr.add_mid]
        congr 1
        omega
      rw [ea, hc]
      exact hu) (cells8_one _) (by unfold maxLen; omega) (by omega) hbase
    refine ⟨v', w', h1, ?_, h3⟩
    show w'.ownsRow base 32 32 v' (n + m) (hc (hcat F n G) (n + m))
    rw [← hc_cat]
    exact h2
theorem OH.below {w0 w w' : World} {v : Value} {n : Nat} {F : Nat → Nat → Nat} (h : OH w w0.heap.size v n F) (hb : Below w0.heap.size w0 w) (hg : w.grownBy w' v.ownBlock) : Below w0.heap.size w0 w' :=
  hb.grown hg hb.size (fun k hk => (h.lt k hk).1)
theorem wpList_appH {W : World} {ops : Array Oper} {rest : List Oper} {op : Oper} {a : Act} {Q : Exit → Act → World → Prop} (hgd : op.guard = none) (s x : Operand)
    (ho : op.op = .call { callee := .builtin .append, args := #[s, x], argTypes := #[22, 22] })
    {base : Nat} {v : Value} {n : Nat} {F G : Nat → Nat → Nat} (hs : a.eval s = v) (hown : OH W base v n F) {y : Option Addr} {m c : Nat} (hx : a.eval x = .slice y m c) (hy : HL W y m G) (hb : n + m ≤ 1000000) (hbase : base ≤ W.heap.size)
    (h : ∀ v' w', OH w' base v' (n + m) (hcat F n G) → W.grownBy w' v.ownBlock → wpList Tryd.prog ops Q rest (a.put op.dst v') w') : wpList Tryd.prog ops Q (op :: rest) a W := by
  refine wpList_plain hgd fun K hK => ?_
  obtain ⟨v', w', hr, h2, h3⟩ := run_appH (c := c) hown hy hb hbase op.type
  unfold Oper.wp execOp
  simp only [ho, resolve, invoke, builtin, Sem.run_bind, Sem.run_pure, Result.andThen_ok, List.map_toArray, List.map_cons, List.map_nil, hs, hx, hr]
  exact hK _ _ (h v' w' h2 h3)
/-- The same, at an operation. -/
theorem wp_appH {W : World} {op : Oper} {a : Act} {Kt : Act → World → Prop} {Q : Exit → Act → World → Prop} (s x : Operand)
    (ho : op.op = .call { callee := .builtin .append, args := #[s, x], argTypes := #[22, 22] })
    {base : Nat} {v : Value} {n : Nat} {F G : Nat → Nat → Nat} (hs : a.eval s = v) (hown : OH W base v n F) {y : Option Addr} {m c : Nat} (hx : a.eval x = .slice y m c) (hy : HL W y m G) (hb : n + m ≤ 1000000) (hbase : base ≤ W.heap.size)
    (h : ∀ v' w', OH w' base v' (n + m) (hcat F n G) → W.grownBy w' v.ownBlock → Kt (a.put op.dst v') w') : Oper.wp Tryd.prog op a W Kt Q := by
  obtain ⟨v', w', hr, h2, h3⟩ := run_appH (c := c) hown hy hb hbase op.type
  unfold Oper.wp execOp
  simp only [ho, resolve, invoke, builtin, Sem.run_bind, Sem.run_pure, Result.andThen_ok, List.map_toArray, List.map_cons, List.map_nil, hs, hx, hr]
  exact h v' w' h2 h3
/-- Two hashes are compared, in a region that draws its order. -/
theorem yieldsIf_eqH {ops : Array Oper} {S : World → Prop} {op : Oper} {a : Act} (hw : Region.wanted op (yielded ops a.tmps) = true) {x y : Operand} {t : TypeId} (V U : Array Value) (r : Bool) (ho : op.op = .binOp .eql 32 x y t)
    (hx : a.eval x = .agg V) (hy : a.eval y = .agg U) (q : ∀ w, (Op.equalIn 10000 32 (.agg V) (.agg U)).run Tryd.prog w = .ok r w) : YieldsIf Tryd.prog ops S op (.bool r) a :=
  .inl ⟨hw, fun w _ => by
    obtain ⟨h1, h2⟩ := runEq V U x y r w (q w)
    unfold execOp
    simp only [ho, hx, hy, Sem.run_bind, Sem.run_pure, Result.andThen_ok, h1, h2]⟩
theorem yieldsIf_neH {ops : Array Oper} {S : World → Prop} {op : Oper} {a : Act} (hw : Region.wanted op (yielded ops a.tmps) = true) {x y : Operand} {t : TypeId} (V U : Array Value) (r : Bool) (ho : op.op = .binOp .neq 32 x y t)
    (hx : a.eval x = .agg V) (hy : a.eval y = .agg U) (q : ∀ w, (Op.equalIn 10000 32 (.agg V) (.agg U)).run Tryd.prog w = .ok r w) : YieldsIf Tryd.prog ops S op (.bool (!r)) a :=
  .inl ⟨hw, fun w _ => by
    obtain ⟨h1, h2⟩ := runNe V U x y r w (q w)
    unfold execOp
    simp only [ho, hx, hy, Sem.run_bind, Sem.run_pure, Result.andThen_ok, h1, h2]⟩
/-- Two lists of hashes are the same. -/
def eqL (F G : Nat → Nat → Nat) (n : Nat) : Bool := decide (∀ i, i < n → eqB (F i) (G i) 32 = true)
theorem eqL_same (F : Nat → Nat → Nat) (n : Nat) : eqL F F n = true := decide_eq_true (fun _ _ => decide_eq_true (fun _ _ => rfl))
end Go.Proofs.YteplklbpehkdjaaDoor
