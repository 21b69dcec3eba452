/- Layer 20: variables of one cell, and pairs compared. -/
import Derived.Test.YtpokecijongkpaaDoorMD14
import Derived.Test.YtpokecijongkpaaDoorMD16
namespace Go.Proofs.YtpokecijongkpaaDoor
set_option maxRecDepth 100000
open Go.RowKit Go.Shelf
attribute [local go_sem] Oper.semAt_some
attribute [local go_sem ↓] Go.wp_at_zero Go.wp_at_succ

theorem Boxed.bl {W W' : World} {B : Nat} {t : TypeId} {v : Value} (h : Boxed W B t v) (hb : Below W.heap.size W W') : Boxed W' B t v := (hb.block B (Boxed.lt h)).trans h
theorem boxed_far {W : World} {B b : Nat} {t : TypeId} {v : Value} (h : Boxed W B t v) (hne : b ≠ B) (u : Value) : Boxed (W.setCell ⟨b, 0, none⟩ u) B t v := Boxed.other h (fun e => hne e.symm) u
theorem range_far {W : World} {b g : Nat} {o : Nat} {vs : List Value} (h : W.rangeAt g o vs) (hne : b ≠ g) (u : Value) : (W.setCell ⟨b, 0, none⟩ u).rangeAt g o vs := fun j v hv => by
  rw [World.cell?_setCell_far W ⟨b, 0, none⟩ ⟨g, o + j, none⟩ u hne]
  exact h j v hv
theorem ba_far {W : World} {b : Nat} {x : Option Addr} {n : Nat} {f : Nat → Nat} (h : BA W x n f) (hne : ∀ g o, x = some ⟨g, o, none⟩ → b ≠ g) (u : Value) : BA (W.setCell ⟨b, 0, none⟩ u) x n f :=
  ⟨h.1, h.2.imp id fun ⟨g, o, e, hc⟩ => ⟨g, o, e, ⟨fun i hi => by
    rw [World.cell?_setCell_far W ⟨b, 0, none⟩ ⟨g, o + i, none⟩ u (hne g o e)]
    exact hc.c i hi⟩⟩⟩
section
variable {w : World} {ops : Array Oper} {rest : List Oper} {o : Oper} {a : Act} {Q : Exit → Act → World → Prop} {Kt : Act → World → Prop} {x y : Operand} {B : Nat} {v : Value}
theorem wp_putBytes (ho : o.op = .store 28 x y) {s : Option Addr} {n c : Nat} (hx : a.eval x = .pointer (some ⟨B, 0, none⟩)) (hy : a.eval y = .slice s n c) (hb : Boxed w B 28 v) (h : Kt (a.put o.dst undef) (w.setCell ⟨B, 0, none⟩ (.slice s n c))) : Oper.wp Tryd.prog o a w Kt Q := by
  have hc := hb.cell
  have hf := hb.frozen
  unfold Oper.wp execOp
  simp only [ho, hx, hy]
  go_simp
  exact h
theorem wp_putHashes (ho : o.op = .store 22 x y) {s : Option Addr} {n c : Nat} (hx : a.eval x = .pointer (some ⟨B, 0, none⟩)) (hy : a.eval y = .slice s n c) (hb : Boxed w B 22 v) (h : Kt (a.put o.dst undef) (w.setCell ⟨B, 0, none⟩ (.slice s n c))) : Oper.wp Tryd.prog o a w Kt Q := by
  have hc := hb.cell
  have hf := hb.frozen
  unfold Oper.wp execOp
  simp only [ho, hx, hy]
  go_simp
  exact h
theorem wp_putInt (ho : o.op = .store 3 x y) {i : Int} (hx : a.eval x = .pointer (some ⟨B, 0, none⟩)) (hy : a.eval y = .int .i64 i) (hb : Boxed w B 3 v) (h : Kt (a.put o.dst undef) (w.setCell ⟨B, 0, none⟩ (.int .i64 i))) : Oper.wp Tryd.prog o a w Kt Q := by
  have hc := hb.cell
  have hf := hb.frozen
  unfold Oper.wp execOp
  simp only [ho, hx, hy]
  go_simp
  exact h
theorem wp_putBool (ho : o.op = .store 4 x y) {i : Bool} (hx : a.eval x = .pointer (some ⟨B, 0, none⟩)) (hy : a.eval y = .bool i) (hb : Boxed w B 4 v) (h : Kt (a.put o.dst undef) (w.setCell ⟨B, 0, none⟩ (.bool i))) : Oper.wp Tryd.prog o a w Kt Q := by
  have hc := hb.cell
  have hf := hb.frozen
  unfold Oper.wp execOp
  simp only [ho, hx, hy]
  go_simp
  exact h
theorem wp_getHashes (ho : o.op = .load 22 x) {s : Option Addr} {n c : Nat} (hx : a.eval x = .pointer (some ⟨B, 0, none⟩)) (hb : Boxed w B 22 (.slice s n c)) (h : Kt (a.put o.dst (.slice s n c)) w) : Oper.wp Tryd.prog o a w Kt Q := by
  have hc := hb.cell
  have hf := hb.frozen
  unfold Oper.wp execOp
  simp only [ho, hx]
  go_simp
  exact h
theorem wp_getInt (ho : o.op = .load 3 x) {i : Int} (hx : a.eval x = .pointer (some ⟨B, 0, none⟩)) (hb : Boxed w B 3 (.int .i64 i)) (h : Kt (a.put o.dst (.int .i64 i)) w) : Oper.wp Tryd.prog o a w Kt Q := by
  have hc := hb.cell
  have hf := hb.frozen
  unfold Oper.wp execOp
  simp only [ho, hx]
  go_simp
  exact h
theorem runNeQ (V U : Array Value) (x y : Operand) (r : Bool) (w : World) (q : (Op.equalIn 10000 78 (.agg V) (.agg U)).run Tryd.prog w = .ok r w) :
    (eqGuard .neq 78 x y (.agg V) (.agg U)).run Tryd.prog w = .ok () w ∧ (binOp .neq 78 (.agg V) (.agg U)).run Tryd.prog w = .ok (.bool (!r)) w := by
  constructor
  · simp [go_sem]
  · simp only [go_sem, q, Result.andThen_ok]
theorem wpList_neQ (hw : Region.wanted o (yielded ops a.tmps) = true) (x y : Operand) (t : TypeId) (ho : o.op = .binOp .neq 78 x y t)
    (q p : HP) (r : Bool) (hx : a.eval x = pval q) (hy : a.eval y = pval p) (hr : (eqB q.1 p.1 32 && eqB q.2 p.2 32) = r) (h : wpList Tryd.prog ops Q rest (a.put o.dst (.bool (!r))) w) : wpList Tryd.prog ops Q (o :: rest) a w := by
  refine wpList_step fun K hK => ?_
  rw [if_pos hw]
  obtain ⟨h1, h2⟩ := runNeQ _ _ x y r w (by rw [eqQ q p w, hr])
  unfold Oper.wp execOp
  simp only [ho, hx, hy, Sem.run_bind, Sem.run_pure, Result.andThen_ok, h1, h2]
  exact hK _ _ h
end
/-- Several orders meet again. -/
theorem meetR {G : Prop} {R P : World → Nat → Prop} (main : (∀ W t, R W t → P W t) → G) (x : ∀ W t, R W t → P W t) : G := main x
theorem keeps_below {B : Nat} {X Y : World} (h : Below X.heap.size X Y) : KeepsFrom B X Y := ⟨h.size, fun k _ _ hk _ => (h.block k (Array.getElem?_eq_some_iff.1 hk).1).trans hk⟩
theorem keeps_set {B : Nat} {X : World} (b : Nat) (u : Value) : KeepsFrom B X (X.setCell ⟨b, 0, none⟩ u) := (KeepsOthers.setCell _ _ _).from _
end Go.Proofs.YtpokecijongkpaaDoor
