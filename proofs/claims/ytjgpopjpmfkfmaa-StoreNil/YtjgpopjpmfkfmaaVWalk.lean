/- Walks by variables: a function's slots and its own variables as a state, whatever blocks they lie in; each operation a step of that state; a region that draws its order as one step. A region as one step of the state, whatever order it draws. Regions, drawn or not, by what each operation does; what is looked up is reckoned. Functions by their states: how one begins, goes on, parts, and ends. The operations of a region, what they look up being reckoned. Plain operations on numbers, as the steps of states want them. Steps of states for addresses: slices of own variables, calls that are handed addresses, that make memory, or write a variable. -/
import Derived.Below
import Derived.Deep.RegionHeld3
import Derived.Deep.MidRow
import Derived.Laws.Tables
import Derived.Deep.WholeRow
import Derived.Orders
import Derived.Laws.AppendOwn
import Derived.Laws.StructEq
import Derived.IntWalk
import Derived.Laws.IdiomCopy
namespace Go.Proofs.Ytjgpopjpmfkfmaa
set_option maxRecDepth 100000
open Go.RowKit

theorem lk {n m : Nat} (h : Nat.ble n m = true) : n ≤ m := Nat.le_of_ble_eq_true h

/-- What a slot holds: a value, or the address of a cell of a variable. -/
structure SV : Type where
  v : Value
  p : Option (Nat × Nat)
  k : Option (Nat × Nat)
  u : Option (Nat × (Value → Value))
abbrev SV.val (v : Value) : SV := ⟨v, none, none, none⟩
abbrev SV.ptr (x o : Nat) : SV := ⟨undef, some (x, o), none, none⟩
/-- A slice of a variable's cells: n of them, room for c. -/
abbrev SV.sli (x o n c : Nat) : SV := ⟨undef, some (x, o), some (n, c), none⟩
/-- Out of the value, whatever it is, that leads to a thing of one's own. -/
abbrev SV.unk (x : Nat) (g : Value → Value) : SV := ⟨undef, none, none, some (x, g)⟩
/-- Where a variable lies; the value that leads to a thing, and the blocks that the thing has for itself. -/
structure Loc : Type where
  b : Nat
  v : Value
  F : Nat → Bool
/-- Where the variables lie. -/
def SV.at (β : Nat → Loc) (s : SV) : Value := match s.u with
  | some (x, g) => g (β x).v
  | none => match s.p, s.k with
    | none, _ => s.v
    | some (x, o), none => .pointer (some ⟨(β x).b, o, none⟩)
    | some (x, o), some (n, c) => .slice (some ⟨(β x).b, o, none⟩) n c
abbrev Loc.to (l : Loc) (b : Nat) : Loc := ⟨b, l.v, l.F⟩
/-- A thing in memory: what is known of it hangs on its own blocks alone. -/
structure Pd : Type where
  p : Value → (Nat → Bool) → World → Prop
  keep : ∀ {v : Value} {F : Nat → Bool} {w w' : World}, w.heap.size ≤ w'.heap.size → (∀ b, F b = true → w'.heap[b]? = w.heap[b]?) → p v F w → p v F w'
/-- A state: what is known of the slots, and of the variables' cells (a variable bears the number of the slot that it was made for). -/
structure SS : Type where
  s : Nat → Option SV
  m : Nat → Option (List Value)
  q : Nat → Option Pd
def SS.ev (n : Nat) (σ : SS) : Operand → Option SV
  | .tmp j => if j < n then σ.s j else some (.val undef)
  | .const v => some (.val v)
  | .global g => some (.val (.pointer (some ⟨g, 0, none⟩)))
  | .func f => some (.val (.func (.func f) #[] #[]))
def SS.set (σ : SS) (d : Option Nat) (v : SV) : SS := match d with
  | some d => ⟨fun j => if j = d then some v else σ.s j, σ.m, σ.q⟩
  | none => σ
def SS.var (σ : SS) (x : Nat) (cs : List Value) : SS := ⟨σ.s, fun y => if y = x then some cs else σ.m y, σ.q⟩
def SS.obj (σ : SS) (x : Nat) (p : Pd) : SS := ⟨σ.s, σ.m, fun y => if y = x then some p else σ.q y⟩
/-- Worlds that part from the first one in new blocks alone, and in those that may be written. -/
structure Kp (X : Nat → Bool) (W w : World) : Prop where
  os : w.os = W.os
  tape : w.tape = W.tape
  output : w.output = W.output
  size : W.heap.size ≤ w.heap.size
  block : ∀ k, k < W.heap.size → X k = false → w.heap[k]? = W.heap[k]?
theorem Kp.refl (X : Nat → Bool) (W : World) : Kp X W W := ⟨rfl, rfl, rfl, Nat.le_refl _, fun _ _ _ => rfl⟩
theorem Kp.grow {X : Nat → Bool} {W w w' : World} (h : Kp X W w) (hb : Below w.heap.size w w') : Kp X W w' :=
  ⟨hb.os.trans h.os, hb.tape.trans h.tape, hb.output.trans h.output, Nat.le_trans h.size hb.size, fun k hk hx => (hb.block k (Nat.lt_of_lt_of_le hk h.size)).trans (h.block k hk hx)⟩
theorem Kp.setCell {X : Nat → Bool} {W w : World} (h : Kp X W w) {p : Addr} (hp : W.heap.size ≤ p.block ∨ X p.block = true) (u : Value) : Kp X W (w.setCell p u) :=
  ⟨h.os, h.tape, h.output, Nat.le_trans h.size (by simp [World.setCell]), fun k hk hx => by
    have hn : k ≠ p.block := fun e => by
      rcases hp with hp | hp
      · omega
      · rw [e, hp] at hx; cases hx
    exact (Below.heap_setCell w p u k hn).trans (h.block k hk hx)⟩
theorem Kp.below {W w : World} (h : Kp (fun _ => false) W w) : Below W.heap.size W w := ⟨h.os, h.tape, h.output, h.size, fun k hk => h.block k hk rfl⟩
theorem Kp.cell {X : Nat → Bool} {W w : World} (h : Kp X W w) {p : Addr} (hp : p.block < W.heap.size) (hx : X p.block = false) : w.cell? p = W.cell? p := World.cell?_of_block (h.block p.block hp hx)
theorem Kp.grown {b : Nat} {W w : World} (h : Kp (fun k => Nat.beq k b) W w) : W.grownBy w (some b) :=
  ⟨h.os, h.tape, h.output, h.size, fun k hk hn => h.block k hk (by
    cases hb : Nat.beq k b with
    | false => rfl
    | true => exact absurd (by rw [Nat.eq_of_beq_eq_true hb]) hn)⟩
/-- The world at a function's beginning, and which of its blocks the function may write. -/
structure Bs : Type where
  w : World
  X : Nat → Bool
  /-- What is deferred. -/
  D : List Deferred
def Bs.of (w : World) : Bs := ⟨w, fun _ => false, []⟩
def Bs.kp (W : Bs) (w : World) : Prop := Kp W.X W.w w
theorem Bs.kp_of {w w' : World} (h : (Bs.of w).kp w') : Below w.heap.size w w' := Kp.below h
/-- The things are there, each in blocks of its own. -/
structure QOk (W : Bs) (n : Nat) (β : Nat → Loc) (σ : SS) (w : World) : Prop where
  qa : ∀ x p, σ.q x = some p → p.p (β x).v (β x).F w ∧ ∀ b, (β x).F b = true → (W.w.heap.size ≤ b ∨ W.X b = true) ∧ b < w.heap.size
  qm : ∀ x y, (σ.q x).isSome = true → (σ.m y).isSome = true → (β x).F (β y).b = false
  qq : ∀ x y, (σ.q x).isSome = true → (σ.q y).isSome = true → x ≠ y → ∀ b, (β x).F b = true → (β y).F b = false
  qt : ∀ j v x g, j < n → σ.s j = some v → v.u = some (x, g) → (σ.q x).isSome = true
theorem QOk.to {W : Bs} {n : Nat} {β β' : Nat → Loc} {σ σ' : SS} {w w' : World} (h : QOk W n β σ w) (e1 : ∀ x, σ'.q x = σ.q x)
    (e2 : ∀ y, (σ'.m y).isSome = true → ((σ.m y).isSome = true ∧ (β' y).b = (β y).b) ∨ w.heap.size ≤ (β' y).b)
    (e3 : ∀ x, (σ.q x).isSome = true → (β' x).v = (β x).v ∧ (β' x).F = (β x).F)
    (e4 : ∀ j v x g, j < n → σ'.s j = some v → v.u = some (x, g) → (σ.q x).isSome = true)
    (hs : w.heap.size ≤ w'.heap.size) (hb : ∀ x, (σ.q x).isSome = true → ∀ b, (β x).F b = true → w'.heap[b]? = w.heap[b]?) : QOk W n β' σ' w' := by
  refine ⟨fun x p hx => ?_, fun x y hx hy => ?_, fun x y hx hy hn b hbx => ?_, fun j v x g hj hv e => ?_⟩
  · rw [e1] at hx
    have hx' : (σ.q x).isSome = true := by rw [hx]; rfl
    obtain ⟨h1, h2⟩ := h.qa x p hx
    rw [(e3 x hx').1, (e3 x hx').2]
    exact ⟨p.keep hs (hb x hx') h1, fun b hbb => ⟨(h2 b hbb).1, Nat.lt_of_lt_of_le (h2 b hbb).2 hs⟩⟩
  · rw [e1] at hx
    rw [(e3 x hx).2]
    rcases e2 y hy with ⟨hm, hbe⟩ | hge
    · rw [hbe]; exact h.qm x y hx hm
    · obtain ⟨p, hp⟩ := Option.isSome_iff_exists.1 hx
      cases hF : (β x).F (β' y).b with
      | false => rfl
      | true => have := ((h.qa x p hp).2 _ hF).2; omega
  · rw [e1] at hx hy
    rw [(e3 x hx).2] at hbx
    rw [(e3 y hy).2]
    exact h.qq x y hx hy hn b hbx
  · rw [e1]; exact e4 j v x g hj hv e
/-- The state stands for a frame and a world: W is the world at the function's beginning. -/
structure Rep (W : Bs) (n : Nat) (β : Nat → Loc) (σ : SS) (a : Act) (w : World) : Prop where
  df : a.defers = W.D
  sz : a.tmps.size = n
  sl : ∀ j v, j < n → σ.s j = some v → a.tmps[j]? = some (v.at β)
  bl : W.kp w
  va : ∀ x cs, σ.m x = some cs → (W.w.heap.size ≤ (β x).b ∨ W.X (β x).b = true) ∧ (β x).b < w.heap.size ∧ w.rangeAt (β x).b 0 cs ∧ w.there (β x).b 0 cs.length
  ne : ∀ x y, (σ.m x).isSome = true → (σ.m y).isSome = true → x ≠ y → (β x).b ≠ (β y).b
  /-- No slot leads to a variable that isn't there. -/
  pt : ∀ j v x o, j < n → σ.s j = some v → v.p = some (x, o) → (σ.m x).isSome = true
  qk : QOk W n β σ w

theorem Rep.eval {W : Bs} {n : Nat} {β : Nat → Loc} {σ : SS} {a : Act} {w : World} (h : Rep W n β σ a w) {x : Operand} {v : SV} (hv : σ.ev n x = some v) : a.eval x = v.at β := by
  cases x with
  | tmp j =>
    simp only [Act.eval]
    simp only [SS.ev] at hv
    by_cases hj : j < n
    · rw [if_pos hj] at hv
      have := h.sl j v hj hv
      simp [Array.getD_eq_getD_getElem?, this]
    · rw [if_neg hj] at hv
      have : a.tmps[j]? = none := Array.getElem?_eq_none (by rw [h.sz]; exact Nat.le_of_not_lt hj)
      cases hv
      simp [Array.getD_eq_getD_getElem?, this, SV.at]
  | _ => cases hv; rfl
/-- A value goes into a slot. -/
theorem Rep.put {W : Bs} {n : Nat} {β : Nat → Loc} {σ : SS} {a : Act} {w : World} (h : Rep W n β σ a w) (d : Option Nat) (v : SV) (hv : ∀ x o, v.p = some (x, o) → (σ.m x).isSome = true) (hu : ∀ x g, v.u = some (x, g) → (σ.q x).isSome = true) : Rep W n β (σ.set d v) (a.put d (v.at β)) w := by
  cases d with
  | none => exact h
  | some d =>
    refine ⟨h.df, by simp [Act.put, h.sz], fun j u hj hu => ?_, h.bl, h.va, h.ne, fun j u x o hj hu e => ?_, h.qk.to (fun _ => rfl) (fun y hy => Or.inl ⟨hy, rfl⟩) (fun x hx => ⟨rfl, rfl⟩) (fun j u x g hj hq e => ?_) (Nat.le_refl _) (fun _ _ _ _ => rfl)⟩
    · simp only [Act.put, SS.set] at hu ⊢
      by_cases e : j = d
      · subst e
        rw [if_pos rfl] at hu
        cases hu
        simp [h.sz, hj]
      · rw [if_neg e] at hu
        rw [Array.getElem?_setIfInBounds_ne (Ne.symm e)]
        exact h.sl j u hj hu
    · simp only [SS.set] at hu ⊢
      by_cases ej : j = d
      · rw [if_pos ej] at hu
        cases hu
        exact hv x o e
      · rw [if_neg ej] at hu
        exact h.pt j u x o hj hu e
    · simp only [SS.set] at hq
      by_cases ej : j = d
      · rw [if_pos ej] at hq
        cases hq
        exact hu x g e
      · rw [if_neg ej] at hq
        exact h.qk.qt j u x g hj hq e
/-- The blocks may be told otherwise where no variable lies. -/
theorem Rep.other {W : Bs} {n : Nat} {β β' : Nat → Loc} {σ : SS} {a : Act} {w : World} (h : Rep W n β σ a w) (e : ∀ x, (σ.m x).isSome = true → (β' x).b = (β x).b) (e' : ∀ x, (σ.q x).isSome = true → (β' x).v = (β x).v ∧ (β' x).F = (β x).F) : Rep W n β' σ a w := by
  refine ⟨h.df, h.sz, fun j u hj hu => ?_, h.bl, fun x cs hx => ?_, fun x y hx hy hn => ?_, h.pt, h.qk.to (fun _ => rfl) (fun y hy => Or.inl ⟨hy, e y hy⟩) e' h.qk.qt (Nat.le_refl _) (fun _ _ _ _ => rfl)⟩
  · rw [h.sl j u hj hu]
    have hp := h.pt j u
    have hq := h.qk.qt j u
    obtain ⟨v, q, k, r⟩ := u
    cases r with
    | some r => simp only [SV.at, (e' r.1 (hq r.1 r.2 hj hu rfl)).1]
    | none => cases q with
      | none => rfl
      | some q => cases k <;> simp only [SV.at, e q.1 (hp q.1 q.2 hj hu rfl)]
  · rw [e x (by simp [hx])]; exact h.va x cs hx
  · rw [e x hx, e y hy]; exact h.ne x y hx hy hn
/-- Another world in which all that counts is as it was. -/
theorem Rep.grow {W : Bs} {n : Nat} {β : Nat → Loc} {σ : SS} {a : Act} {w w' : World} (h : Rep W n β σ a w) (hb : Below w.heap.size w w') : Rep W n β σ a w' := by
  refine ⟨h.df, h.sz, h.sl, Kp.grow h.bl hb, fun x cs hx => ?_, h.ne, h.pt, h.qk.to (fun _ => rfl) (fun y hy => Or.inl ⟨hy, rfl⟩) (fun x hx => ⟨rfl, rfl⟩) h.qk.qt hb.size (fun x hx b hF => ?_)⟩
  rotate_left
  · obtain ⟨p, hp⟩ := Option.isSome_iff_exists.1 hx
    exact hb.block b ((h.qk.qa x p hp).2 b hF).2
  obtain ⟨h1, h2, h3, h4⟩ := h.va x cs hx
  refine ⟨h1, Nat.lt_of_lt_of_le h2 hb.size, fun j v hv => ?_, fun j hj => ?_⟩
  · rw [hb.cell (p := ⟨(β x).b, 0 + j, none⟩) h2]; exact h3 j v hv
  · rw [hb.cell (p := ⟨(β x).b, 0 + j, none⟩) h2, hb.frozen (p := ⟨(β x).b, 0 + j, none⟩) h2]; exact h4 j hj
theorem Rep.drew {W : Bs} {n : Nat} {β : Nat → Loc} {σ : SS} {a : Act} {w : World} (h : Rep W n β σ a w) : Rep W n β σ a w.drew := h.grow (Below.drew (Below.refl _ _))

/-- A step of the state: the operation goes through, and the frame and world behind it are what the next state stands for. -/
def Step (P : Program) (W : Bs) (n : Nat) (o : Oper) (σ σ' : SS) : Prop :=
  ∀ (β : Nat → Loc) (a : Act) (w : World) (Q : Exit → Act → World → Prop), Rep W n β σ a w → Oper.wp P o a w (fun a' w' => ∃ β', Rep W n β' σ' a' w') Q
theorem v_val {P : Program} {W : Bs} {n : Nat} {o : Oper} {σ : SS} (v : SV) (hp : ∀ x c, v.p = some (x, c) → (σ.m x).isSome = true) (hu : ∀ x g, v.u = some (x, g) → (σ.q x).isSome = true) (h : ∀ (β : Nat → Loc) (a : Act) (w : World), Rep W n β σ a w → (execOp a.eval o).run P w = .ok (.value (v.at β)) w) : Step P W n o σ (σ.set o.dst v) := by
  intro β a w Q hr
  unfold Oper.wp
  rw [h β a w hr]
  exact ⟨β, hr.put o.dst v hp hu⟩
theorem val_hu {σ : SS} {v : Value} : ∀ x g, (SV.val v).u = some (x, g) → (σ.q x).isSome = true := fun _ _ e => by cases e
theorem val_hp {σ : SS} {v : Value} : ∀ x c, (SV.val v).p = some (x, c) → (σ.m x).isSome = true := fun _ _ e => by cases e
/-- A part of a variable, read whole. -/
theorem step_load {P : Program} {W : Bs} {n : Nat} {o : Oper} {σ : SS} (ty : TypeId) (x : Operand) (ho : o.op = .load ty x) (y off : Nat) (hx : σ.ev n x = some (.ptr y off)) (cs : List Value) (hm : σ.m y = some cs) (d : TypeDesc) (hu : P.underlying ty = some d) (hd : d.isRow = true)
    (k : Nat) (hi : (P.info? ty).map (·.size) = some k) (hk : off + k ≤ cs.length) (vs : List Value) (hv : vs = (cs.drop off).take k) : Step P W n o σ (σ.set o.dst (.val (.agg vs.toArray))) := by
  refine v_val _ val_hp val_hu fun β a w hr => ?_
  have hc : w.rangeAt (β y).b off vs := fun j v hj => by
    have h3 := (hr.va y cs hm).2.2.1
    rw [hv] at hj
    have hj2 : j < k := by
      have := (List.getElem?_eq_some_iff.1 hj).1
      simp at this; omega
    have := h3 (off + j) v (by rw [List.getElem?_take_of_lt hj2, List.getElem?_drop] at hj; exact hj)
    rw [Nat.zero_add] at this
    exact this
  have hl : vs.length = k := by rw [hv]; simp; omega
  unfold execOp
  simp only [ho, hr.eval hx, SV.at, Instr.loadAt, Instr.sureAddr, Sem.run_bind, Sem.run_pure, Result.andThen_ok, run_loadVar_mid w (β y).b off ty vs d hc hu hd (by rw [hl]; exact hi)]
/-- One cell of a variable. -/
theorem step_load1 {P : Program} {W : Bs} {n : Nat} {o : Oper} {σ : SS} (ty : TypeId) (x : Operand) (ho : o.op = .load ty x) (y off : Nat) (hx : σ.ev n x = some (.ptr y off)) (cs : List Value) (hm : σ.m y = some cs) (d : TypeDesc) (hu : P.underlying ty = some d) (hd : d.isRow = false)
    (v : Value) (hv : cs[off]? = some v) : Step P W n o σ (σ.set o.dst (.val v)) := by
  refine v_val _ val_hp val_hu fun β a w hr => ?_
  have hc : w.cell? ⟨(β y).b, off, none⟩ = some v := by
    have := (hr.va y cs hm).2.2.1 off v hv
    rw [Nat.zero_add] at this
    exact this
  have hagg : (isAgg ty).run P w = .ok false w := by
    unfold isAgg
    rw [Sem.run_bind, run_underlying hu w]
    cases d <;> simp_all
  unfold execOp
  simp [ho, hr.eval hx, SV.at, Instr.loadAt, Instr.sureAddr, loadVar, hagg, hc]

theorem Rep.below {W : Bs} {n : Nat} {β : Nat → Loc} {σ : SS} {a : Act} {w : World} (h : Rep W n β σ a w) : W.kp w := h.bl
/-- Cells, some of them put anew. -/
def splice (cs : List Value) (off : Nat) (vs : List Value) : List Value := cs.take off ++ vs ++ cs.drop (off + vs.length)
theorem splice_len {cs vs : List Value} {off : Nat} (h : off + vs.length ≤ cs.length) : (splice cs off vs).length = cs.length := by
  simp [splice]; omega
theorem splice_at {cs vs : List Value} {off : Nat} (h : off + vs.length ≤ cs.length) (j : Nat) : (splice cs off vs)[j]? = if off ≤ j ∧ j < off + vs.length then vs[j - off]? else cs[j]? := by
  unfold splice
  by_cases h1 : j < off
  · rw [List.append_assoc, List.getElem?_append_left (by simp; omega), List.getElem?_take_of_lt h1, if_neg (by omega)]
  · by_cases h2 : j < off + vs.length
    · rw [List.append_assoc, List.getElem?_append_right (by simp; omega), List.getElem?_append_left (by simp; omega), if_pos (by omega)]
      congr 1
      simp; omega
    · rw [List.getElem?_append_right (by simp; omega), List.getElem?_drop, if_neg (by omega)]
      congr 1
      simp; omega
theorem SS.isSome_var {σ : SS} {x : Nat} {cs : List Value} {y : Nat} (h : (σ.m y).isSome = true) : ((σ.var x cs).m y).isSome = true := by
  simp only [SS.var]
  split
  · rfl
  · exact h
/-- A variable's cells are put anew, in part. -/
theorem Rep.stored {W : Bs} {n : Nat} {β : Nat → Loc} {σ : SS} {a : Act} {w : World} (h : Rep W n β σ a w) {x off : Nat} {cs vs : List Value} (hm : σ.m x = some cs) (hl : off + vs.length ≤ cs.length) : Rep W n β (σ.var x (splice cs off vs)) a (w.setCells (β x).b off vs) := by
  obtain ⟨b1, b2, b3, b4⟩ := h.va x cs hm
  have hsz : ∀ (vs : List Value) (o : Nat) (w : World), (w.setCells (β x).b o vs).heap.size = w.heap.size := by
    intro vs
    induction vs with
    | nil => intro o w; rfl
    | cons v r ih => intro o w; rw [World.setCells, ih]; simp [World.setCell]
  have hbl : ∀ (vs : List Value) (o : Nat) (w : World), W.kp w → W.kp (w.setCells (β x).b o vs) := by
    intro vs
    induction vs with
    | nil => intro o w hb; exact hb
    | cons v r ih => intro o w hb; rw [World.setCells]; exact ih _ _ (Kp.setCell hb b1 v)
  have hth : w.there (β x).b off vs.length := fun j hj => by
    have := b4 (off + j) (by omega)
    rw [Nat.zero_add] at this
    exact this
  have hkb : ∀ (vs : List Value) (o : Nat) (w : World) (k : Nat), k ≠ (β x).b → (w.setCells (β x).b o vs).heap[k]? = w.heap[k]? := by
    intro vs
    induction vs with
    | nil => intro o w k hk; rfl
    | cons v r ih => intro o w k hk; rw [World.setCells, ih _ _ k hk]; exact Below.heap_setCell w _ v k hk
  have hqk : QOk W n β (σ.var x (splice cs off vs)) (w.setCells (β x).b off vs) := h.qk.to (fun _ => rfl) (fun y hy => Or.inl ⟨(by
    by_cases e : y = x
    · rw [e, hm]; rfl
    · simpa [SS.var, e] using hy), rfl⟩) (fun x hx => ⟨rfl, rfl⟩) h.qk.qt (by rw [hsz]; exact Nat.le_refl _) (fun y hy b hF => hkb _ _ _ b (fun e => by
    have := h.qk.qm y x hy (by rw [hm]; rfl)
    rw [← e, hF] at this
    cases this))
  refine ⟨h.df, h.sz, h.sl, hbl _ _ _ h.bl, fun y cs' hy => ?_, fun y z hy hz hn => ?_, fun j u y o hj hu e => SS.isSome_var (h.pt j u y o hj hu e), hqk⟩
  · rw [hsz]
    by_cases e : y = x
    · subst e
      simp only [SS.var, if_true, Option.some.injEq] at hy
      subst hy
      refine ⟨b1, b2, fun j v hv => ?_, ?_⟩
      · rw [splice_at hl] at hv
        rw [Nat.zero_add]
        by_cases hin : off ≤ j ∧ j < off + vs.length
        · rw [if_pos hin] at hv
          have := World.rangeAt_setCells_same w (β y).b off vs hth (j - off) v hv
          rw [show off + (j - off) = j by omega] at this
          exact this
        · rw [if_neg hin] at hv
          have hj : j < cs.length := (List.getElem?_eq_some_iff.1 hv).1
          have h1 : w.rangeAt (β y).b j [v] := fun i u hu => by
            rcases i with _ | i
            · simp at hu; subst hu
              have := b3 j v hv
              rw [Nat.zero_add] at this
              exact this
            · simp at hu
          have := World.rangeAt_setCells_apart h1 (β y).b off vs (by simp; omega) 0 v rfl
          exact this
      · rw [splice_len hl]
        exact World.there_setCells b4 _ _ _
    · simp only [SS.var, if_neg e] at hy
      obtain ⟨c1, c2, c3, c4⟩ := h.va y cs' hy
      exact ⟨c1, c2, World.rangeAt_setCells_apart c3 _ _ _ (Or.inl (h.ne y x (by simp [hy]) (by simp [hm]) e)), World.there_setCells c4 _ _ _⟩
  · refine h.ne y z ?_ ?_ hn
    · by_cases e : y = x
      · rw [e, hm]; rfl
      · simpa [SS.var, e] using hy
    · by_cases e : z = x
      · rw [e, hm]; rfl
      · simpa [SS.var, e] using hz
theorem step_store {P : Program} {W : Bs} {n : Nat} {o : Oper} {σ : SS} (ty : TypeId) (x y : Operand) (ho : o.op = .store ty x y) (hd : o.dst = none) (z off : Nat) (hx : σ.ev n x = some (.ptr z off)) (vs : List Value) (hy : σ.ev n y = some (.val (.agg vs.toArray))) (cs : List Value) (hm : σ.m z = some cs)
    (hi : (P.info? ty).map (·.size) = some vs.length) (hl : off + vs.length ≤ cs.length) (h1 : vs.all (·.oneCell') = true) (cs' : List Value) (hc : cs' = splice cs off vs) : Step P W n o σ (σ.var z cs') := by
  subst hc
  intro β a w Q hr
  obtain ⟨b1, b2, b3, b4⟩ := hr.va z cs hm
  have hth : w.there (β z).b off vs.length := fun j hj => by
    have := b4 (off + j) (by omega)
    rw [Nat.zero_add] at this
    exact this
  refine wp_store_mid ty x y ho (β z).b off vs.toArray (by rw [hr.eval hx]; rfl) (by rw [hr.eval hy]; rfl) (by simpa using hth) (by simpa using hi) (by simpa using h1) ?_
  rw [hd]
  exact ⟨β, hr.stored hm hl⟩
theorem step_store1 {P : Program} {W : Bs} {n : Nat} {o : Oper} {σ : SS} (ty : TypeId) (x y : Operand) (ho : o.op = .store ty x y) (hd : o.dst = none) (z off : Nat) (hx : σ.ev n x = some (.ptr z off)) (v : Value) (hy : σ.ev n y = some (.val v)) (cs : List Value) (hm : σ.m z = some cs)
    (hi : (P.info? ty).map (·.size) = some 1) (hl : off < cs.length) (h1 : v.oneCell' = true) (cs' : List Value) (hc : cs' = splice cs off [v]) : Step P W n o σ (σ.var z cs') := by
  subst hc
  intro β a w Q hr
  obtain ⟨b1, b2, b3, b4⟩ := hr.va z cs hm
  have hth := b4 off hl
  rw [Nat.zero_add] at hth
  have hcell : v.cells = #[v] := by cases v <;> first | rfl | cases h1
  cases hq : P.info? ty with
  | none => simp [hq] at hi
  | some i =>
    have hs : i.size = 1 := by simpa [hq] using hi
    have hst : (storeVar ty ⟨(β z).b, off, none⟩ v).run P w = .ok () (w.setCell ⟨(β z).b, off, none⟩ v) := by
      have := run_storeCells_cells (P := P) (β z).b off [v] 0 w (fun j hj => by have e : j = 0 := (by simpa using hj); rw [e]; exact hth.1) (fun j hj => by have e : j = 0 := (by simpa using hj); rw [e]; exact hth.2) (fun u hu => by simp at hu; rw [hu]; exact h1)
      simp only [Nat.add_zero] at this
      simp [storeVar, sizeOf, typeInfo, hq, hcell, hs]
      rw [this]
      rfl
    unfold Oper.wp execOp
    simp only [ho, hr.eval hx, hr.eval hy, SV.at, Instr.storeAt, Instr.sureAddr, Sem.run_bind, Sem.run_pure, Result.andThen_ok, hst, Oper.upon_skip, hd]
    exact ⟨β, hr.stored (vs := [v]) hm hl⟩
/-- A new variable. -/
theorem Rep.made {W : Bs} {n : Nat} {β : Nat → Loc} {σ : SS} {a : Act} {w : World} (h : Rep W n β σ a w) (x : Nat) (hx : σ.m x = none) (cs : Array Value) (t : TypeId) :
    Rep W n (fun y => if y = x then (β x).to w.heap.size else β y) ((σ.var x cs.toList).set (some x) (.ptr x 0)) (a.put (some x) (.pointer (some ⟨w.heap.size, 0, none⟩))) (w.alloc (.cells cs t)) := by
  have h1 := (h.other (β' := fun y => if y = x then (β x).to w.heap.size else β y) (fun y hy => by
    have : y ≠ x := fun e => by rw [e, hx] at hy; cases hy
    simp [this]) (fun y hy => by
    by_cases e : y = x
    · subst e; simp
    · simp [e])).grow (Below.alloc (Below.refl _ w) (Nat.le_refl _) (.cells cs t))
  have hblk : (w.alloc (.cells cs t)).heap[w.heap.size]? = some (.cells cs t) := heap_alloc_new w _
  have h2 : Rep W n (fun y => if y = x then (β x).to w.heap.size else β y) (σ.var x cs.toList) a (w.alloc (.cells cs t)) := by
    have h0 := h.other (β' := fun y => if y = x then (β x).to w.heap.size else β y) (fun y hy => by
      have : y ≠ x := fun e => by rw [e, hx] at hy; cases hy
      simp [this]) (fun y hy => by
      by_cases e : y = x
      · subst e; simp
      · simp [e])
    have hqk : QOk W n (fun y => if y = x then (β x).to w.heap.size else β y) (σ.var x cs.toList) (w.alloc (.cells cs t)) := h0.qk.to (fun _ => rfl) (fun y hy => by
      by_cases e : y = x
      · subst e; right; simp
      · left; exact ⟨by simpa [SS.var, e] using hy, rfl⟩) (fun x hx => ⟨rfl, rfl⟩) h0.qk.qt (by simp) (fun y hy b hF => by
      obtain ⟨p, hp⟩ := Option.isSome_iff_exists.1 hy
      exact (Below.alloc (Below.refl _ w) (Nat.le_refl _) (.cells cs t)).block b ((h0.qk.qa y p hp).2 b hF).2)
    refine ⟨h1.df, h1.sz, h1.sl, h1.bl, fun y cs' hy => ?_, fun y z hy hz hn => ?_, fun j u y o hj hu e => SS.isSome_var (h1.pt j u y o hj hu e), hqk⟩
    · by_cases e : y = x
      · subst e
        simp only [SS.var, if_true, Option.some.injEq] at hy
        subst hy
        simp only [if_true]
        refine ⟨Or.inl (Kp.size h.bl), by simp, fun j v hv => ?_, fun j hj => ?_⟩
        · simp only [World.cell?, hblk, Nat.zero_add]
          simpa using hv
        · simp only [World.cell?, World.frozen?, hblk, Nat.zero_add]
          have : j < cs.size := by simpa using hj
          simp [this]
      · simp only [SS.var, if_neg e] at hy
        exact h1.va y cs' hy
    · by_cases ey : y = x
      · subst ey
        have ez : z ≠ y := Ne.symm hn
        simp only [SS.var, if_neg ez] at hz
        obtain ⟨cz, hcz⟩ := Option.isSome_iff_exists.1 hz
        have := (h.va z cz hcz).2.1
        simp only [if_true, if_neg ez]
        omega
      · simp only [SS.var, if_neg ey] at hy
        by_cases ez : z = x
        · subst ez
          obtain ⟨cy, hcy⟩ := Option.isSome_iff_exists.1 hy
          have := (h.va y cy hcy).2.1
          simp only [if_true, if_neg ey]
          omega
        · simp only [SS.var, if_neg ez] at hz
          exact h1.ne y z hy hz hn
  have h3 := h2.put (some x) (.ptr x 0) (fun y o e => by cases e; simp [SS.var]) (fun _ _ e => by cases e)
  simp only [SV.at, if_true] at h3
  exact h3
theorem step_new {P : Program} {W : Bs} {n : Nat} {o : Oper} {σ : SS} (x : Nat) (hd : o.dst = some x) (hx : σ.m x = none) (cs : Array Value) (t : TypeId) (h : ∀ (β : Nat → Loc) (a : Act) (w : World), Rep W n β σ a w → (execOp a.eval o).run P w = .ok (.value (.pointer (some ⟨w.heap.size, 0, none⟩))) (w.alloc (.cells cs t))) : Step P W n o σ ((σ.var x cs.toList).set (some x) (.ptr x 0)) := by
  intro β a w Q hr
  unfold Oper.wp
  rw [h β a w hr, Oper.upon_value, hd]
  exact ⟨_, hr.made x hx cs t⟩
theorem step_alloc {P : Program} {W : Bs} {n : Nat} {o : Oper} {σ : SS} (ty : TypeId) (ho : o.op = .alloc ty) (x : Nat) (hd : o.dst = some x) (hx : σ.m x = none) (v : Value) (hz : (P.info? ty).map (·.zero) = some (some v)) (cs : List Value) (hc : cs = v.cells.toList) : Step P W n o σ ((σ.var x cs).set (some x) (.ptr x 0)) := by
  subst hc
  refine step_new x hd hx v.cells ty fun β a w hr => ?_
  cases hq : P.info? ty with
  | none => simp [hq] at hz
  | some i =>
    have hs : i.zero = some v := by simpa [hq] using hz
    unfold execOp
    simp [ho, Instr.alloc, zeroValue, typeInfo, hq, hs, newVar, newRow]
theorem step_box {P : Program} {W : Bs} {n : Nat} {o : Oper} {σ : SS} (ty : TypeId) (y : Operand) (ho : o.op = .box ty y) (x : Nat) (hd : o.dst = some x) (hx : σ.m x = none) (v : Value) (hy : σ.ev n y = some (.val v)) (cs : List Value) (hc : cs = v.cells.toList) : Step P W n o σ ((σ.var x cs).set (some x) (.ptr x 0)) := by
  subst hc
  refine step_new x hd hx v.cells ty fun β a w hr => ?_
  unfold execOp
  simp [ho, hr.eval hy, SV.at, Instr.box, newVar, newRow]
/-- A call that only makes memory. -/
theorem step_call {P : Program} {W : Bs} {n : Nat} {o : Oper} {σ : SS} (F : Nat) (xs : Array Operand) (ts : Array TypeId) (ho : o.op = .call { callee := .value (.func F), args := xs, argTypes := ts }) (vs : Array Value) (hx : xs.toList.map (σ.ev n) = vs.toList.map (fun v => some (.val v))) (hE : ∀ w : World, (callFunc F vs).run P w = .ok (.enter F vs) w)
    (v : Value) (hC : ∀ w, W.kp w → Calls P F vs w fun e w' => e = .returned v ∧ Below w.heap.size w w') : Step P W n o σ (σ.set o.dst (.val v)) := by
  intro β a w Q hr
  have hf : a.eval (.func F) = .func (.func F) #[] #[] := rfl
  have key : ∀ (l : List Operand) (vs : List Value), l.map (σ.ev n) = vs.map (fun v => some (.val v)) → l.map a.eval = vs := by
    intro l
    induction l with
    | nil => intro vs h; cases vs with
      | nil => rfl
      | cons v vs => simp at h
    | cons x l ih => intro vs h; cases vs with
      | nil => simp at h
      | cons v vs =>
        simp only [List.map_cons, List.cons.injEq] at h ⊢
        exact ⟨hr.eval h.1, ih vs h.2⟩
  have hxs : xs.map a.eval = vs := Array.toList_inj.1 (by rw [Array.toList_map]; exact key xs.toList vs.toList hx)
  unfold Oper.wp execOp
  simp only [ho, resolve, invoke, hf, Deferred.ofValue, hxs, Sem.run_bind, Sem.run_pure, Result.andThen_ok]
  rw [show (#[] ++ vs ++ #[] : Array Value) = vs by simp, hE, Oper.upon_enter]
  refine Calls.mono (hC w hr.bl) ?_
  rintro e w' ⟨rfl, hb⟩
  exact ⟨β, (hr.grow hb).put o.dst (.val v) val_hp val_hu⟩
theorem step_build {P : Program} {W : Bs} {n : Nat} {o : Oper} {σ : SS} (ty : TypeId) (ps : Array (Nat × Operand)) (ho : o.op = .build ty ps) (vs : List (Nat × Value)) (hp : ps.toList.map (fun q => (q.1, σ.ev n q.2)) = vs.map (fun q => (q.1, some (SV.val q.2)))) (cells : List Value) (hb : P.built ty vs = some cells.toArray) : Step P W n o σ (σ.set o.dst (.val (.agg cells.toArray))) := by
  refine v_val _ val_hp val_hu fun β a w hr => ?_
  have key : ∀ (l : List (Nat × Operand)) (vs : List (Nat × Value)), l.map (fun q => (q.1, σ.ev n q.2)) = vs.map (fun q => (q.1, some (SV.val q.2))) → l.map (fun q => (q.1, a.eval q.2)) = vs := by
    intro l
    induction l with
    | nil => intro vs h; cases vs with
      | nil => rfl
      | cons v vs => simp at h
    | cons q l ih => intro vs h; cases vs with
      | nil => simp at h
      | cons v vs =>
        simp only [List.map_cons, List.cons.injEq, Prod.mk.injEq] at h ⊢
        refine ⟨?_, ih vs h.2⟩
        rw [h.1.1, hr.eval h.1.2]
        rfl
  have e : ((ps.map fun (i, x) => (i, a.eval x)).toList : List (Nat × Value)) = vs := by
    rw [Array.toList_map]
    exact key ps.toList vs hp
  unfold execOp
  simp only [ho]
  have := run_build (P := P) w ty (ps.map fun (i, x) => (i, a.eval x)) cells.toArray (by rw [e]; exact hb)
  simp only [Sem.run_bind, this, Result.andThen_ok, Sem.run_pure]
  rfl
/-- The address of a field. -/
theorem step_field {P : Program} {W : Bs} {n : Nat} {o : Oper} {σ : SS} (ty : TypeId) (x : Operand) (i : Nat) (ho : o.op = .fieldAddr ty x i) (y off : Nat) (hx : σ.ev n x = some (.ptr y off)) (hm : (σ.m y).isSome = true) (fs : Array Field) (hu : P.underlying ty = some (.struct fs)) (f : Field) (hf : fs[i]? = some f) (k : Nat) (hk : (P.info? f.type).map (·.size) = some (k + 1)) (off' : Nat) (ho' : off' = off + f.offset) : Step P W n o σ (σ.set o.dst (.ptr y off')) := by
  subst ho'
  refine v_val _ (fun z c e => by cases e; exact hm) (fun _ _ e => by cases e) fun β a w hr => ?_
  cases hq : P.info? f.type with
  | none => simp [hq] at hk
  | some t =>
    have hs : t.size = k + 1 := by simpa [hq] using hk
    unfold execOp
    simp [ho, hr.eval hx, SV.at, Instr.fieldAt, run_underlying hu, hf, Instr.sureAddr, fieldPlace, sizeOf, typeInfo, hq, hs, Addr.add_mid]


/-- What an operation does to the state: the slot that it writes, the variable that it makes or writes. -/
structure OE : Type where
  s : Option (Nat × SV)
  m : Option (Nat × List Value)
  q : Option (Nat × Pd)
  /-- A thing of which nothing is known any more. -/
  l : Option Nat
  /-- .. and another. -/
  l2 : Option Nat
def OE.slot (x : OE) : Option Nat := match x.s with
  | some q => some q.1
  | none => none
def OE.touch (x : OE) : Option Nat := match x.m with
  | some q => some q.1
  | none => none
def OE.take (x : OE) : Option Nat := match x.q with
  | some q => some q.1
  | none => none
def pd0 : Pd := ⟨fun _ _ _ => True, fun _ _ h => h⟩
def OE.app (x : OE) (σ : SS) : SS := ⟨match x.s with
  | some (d, v) => fun j => if j = d then some v else σ.s j
  | none => σ.s, match x.m with
  | some (y, cs) => fun z => if z = y then some cs else σ.m z
  | none => σ.m, fun z => if x.l = some z then some pd0 else if x.l2 = some z then some pd0 else match x.q with
  | some (y, p) => if z = y then some p else σ.q z
  | none => σ.q z⟩
/-- A value into a slot; a new variable; a variable put anew. -/
def eS (d : Nat) (v : SV) : OE := ⟨some (d, v), none, none, none, none⟩
def eN (d : Nat) (cs : List Value) : OE := ⟨some (d, .ptr d 0), some (d, cs), none, none, none⟩
def eM (x : Nat) (cs : List Value) : OE := ⟨none, some (x, cs), none, none, none⟩
def e0 : OE := ⟨none, none, none, none, none⟩
/-- A new thing, and the value that leads to it; a thing put anew. -/
def eQ (d : Nat) (p : Pd) : OE := ⟨some (d, .unk d id), none, some (d, p), none, none⟩
def eT (d : Nat) (v : SV) (x : Nat) (p : Pd) : OE := ⟨some (d, v), none, some (x, p), none, none⟩
def eA (d : Nat) (p : Pd) (x : Nat) : OE := ⟨some (d, .unk d id), none, some (d, p), some x, none⟩
/-- A new thing on which two others are spent. -/
def eB (d : Nat) (p : Pd) (x y : Nat) : OE := ⟨some (d, .unk d id), none, some (d, p), some x, some y⟩
def OE.pd (x : OE) : Pd := match x.q with
  | some q => q.2
  | none => pd0
def OE.sv (x : OE) : SV := match x.s with
  | some q => q.2
  | none => .val undef
def OE.cells (x : OE) : List Value := match x.m with
  | some q => q.2
  | none => []
theorem OE.app_s (x : OE) (σ : SS) (j : Nat) : (x.app σ).s j = if x.slot = some j then some x.sv else σ.s j := by
  obtain ⟨s, m, q, l, l2⟩ := x
  cases s with
  | none => simp [OE.app, OE.slot]
  | some q =>
    simp only [OE.app, OE.slot, OE.sv, Option.some.injEq]
    by_cases h : j = q.1
    · simp [h]
    · simp [h, Ne.symm h]
theorem OE.app_m (x : OE) (σ : SS) (y : Nat) : (x.app σ).m y = if x.touch = some y then some x.cells else σ.m y := by
  obtain ⟨s, m, q, l, l2⟩ := x
  cases m with
  | none => simp [OE.app, OE.touch]
  | some q =>
    simp only [OE.app, OE.touch, OE.cells, Option.some.injEq]
    by_cases h : y = q.1
    · simp [h]
    · simp [h, Ne.symm h]
theorem OE.app_q (x : OE) (σ : SS) (y : Nat) : (x.app σ).q y = if x.l = some y then some pd0 else if x.l2 = some y then some pd0 else if x.take = some y then some x.pd else σ.q y := by
  obtain ⟨s, m, q, l, l2⟩ := x
  simp only [OE.app]
  by_cases hl : l = some y
  · simp [hl]
  · by_cases hl2 : l2 = some y
    · simp [hl2]
    · simp only [hl, hl2, if_false]
      cases q with
      | none => simp [OE.take]
      | some q =>
        simp only [OE.take, OE.pd, Option.some.injEq]
        by_cases h : y = q.1
        · simp [h]
        · simp [h, Ne.symm h]
theorem SS.ext {σ τ : SS} (h1 : ∀ j, σ.s j = τ.s j) (h2 : ∀ y, σ.m y = τ.m y) (h3 : ∀ y, σ.q y = τ.q y) : σ = τ := by
  cases σ; cases τ
  congr
  · exact funext h1
  · exact funext h2
  · exact funext h3
/-- The state behind those that have come up. -/
def run (L : Nat → Bool) : Nat → List OE → SS → SS
  | _, [], σ => σ
  | k, x :: r, σ => run L (k + 1) r (if L k then x.app σ else σ)
/-- Two that may come up in either order. -/
def neO (a b : Option Nat) : Bool := match a, b with
  | some x, some y => !Nat.beq x y
  | _, _ => true
theorem neO_spec {a b : Option Nat} (h : neO a b = true) {j : Nat} (h1 : a = some j) : b ≠ some j := by
  rintro rfl
  subst h1
  simp [neO] at h
def OE.apart (x y : OE) : Bool := neO x.slot y.slot && neO x.touch y.touch && neO x.take y.take && neO x.take y.l && neO x.l y.take && neO x.take y.l2 && neO x.l2 y.take
theorem apart_comm {x y : OE} (h : x.apart y = true) (σ : SS) : x.app (y.app σ) = y.app (x.app σ) := by
  simp only [OE.apart, Bool.and_eq_true] at h
  apply SS.ext
  · intro j
    simp only [OE.app_s]
    by_cases h1 : x.slot = some j
    · simp [h1, neO_spec h.1.1.1.1.1.1 h1]
    · simp [h1]
  · intro j
    simp only [OE.app_m]
    by_cases h1 : x.touch = some j
    · simp [h1, neO_spec h.1.1.1.1.1.2 h1]
    · simp [h1]
  · intro j
    simp only [OE.app_q]
    by_cases h2 : x.l = some j
    · simp [h2, neO_spec h.1.1.2 h2]
    · by_cases h3 : x.l2 = some j
      · simp [h3, neO_spec h.2 h3]
      · by_cases h1 : x.take = some j
        · simp [h2, h3, h1, neO_spec h.1.1.1.1.2 h1, neO_spec h.1.1.1.2 h1, neO_spec h.1.2 h1]
        · simp [h2, h3, h1]
theorem run_congr {L L' : Nat → Bool} : ∀ (k : Nat) (l : List OE) (σ : SS), (∀ j, k ≤ j → L j = L' j) → run L k l σ = run L' k l σ
  | _, [], _, _ => rfl
  | k, x :: r, σ, h => by
    rw [run, run, h k (Nat.le_refl _)]
    exact run_congr (k + 1) r _ (fun j hj => h j (by omega))
theorem run_late {L : Nat → Bool} {x : OE} : ∀ (k : Nat) (l : List OE) (σ : SS), (∀ j y, l[j]? = some y → L (k + j) = true → x.apart y = true) → run L k l (x.app σ) = x.app (run L k l σ)
  | _, [], _, _ => rfl
  | k, y :: r, σ, h => by
    rw [run, run]
    have ih := fun σ => run_late (x := x) (k + 1) r σ (fun j z hz hL => h (j + 1) z (by simpa using hz) (by rw [show k + (j + 1) = k + 1 + j by omega]; exact hL))
    by_cases hk : L k = true
    · rw [if_pos hk, if_pos hk, ← ih, apart_comm (h 0 y rfl hk)]
    · rw [if_neg hk, if_neg hk, ih]
/-- One more comes up. -/
theorem run_more {L : Nat → Bool} {x : OE} (i : Nat) : ∀ (k : Nat) (l : List OE) (σ : SS), l[i]? = some x → L (k + i) = false → (∀ j y, i < j → l[j]? = some y → L (k + j) = true → x.apart y = true) →
    run (fun j => if j = k + i then true else L j) k l σ = x.app (run L k l σ) := by
  induction i with
  | zero =>
    intro k l σ hi hL h
    cases l with
    | nil => simp at hi
    | cons y r =>
      simp at hi
      subst hi
      rw [run, run]
      simp only [Nat.add_zero] at hL
      simp only [Nat.add_zero, if_true, hL, Bool.false_eq_true, if_false]
      rw [run_congr (L' := L) (k + 1) r _ (fun j hj => by rw [if_neg (by omega)])]
      exact run_late (k + 1) r σ (fun j z hz hl => h (j + 1) z (by omega) (by simpa using hz) (by rw [show k + (j + 1) = k + 1 + j by omega]; exact hl))
  | succ i ih =>
    intro k l σ hi hL h
    cases l with
    | nil => simp at hi
    | cons y r =>
      rw [run, run, if_neg (show ¬ k = k + (i + 1) by omega)]
      have := ih (k + 1) r (if L k then y.app σ else σ) (by simpa using hi) (by rw [show k + 1 + i = k + (i + 1) by omega]; exact hL) (fun j z hj hz hl => h (j + 1) z (by omega) (by simpa using hz) (by rw [show k + (j + 1) = k + 1 + j by omega]; exact hl))
      rw [show k + 1 + i = k + (i + 1) by omega] at this
      exact this

/-- The state stands for the frame and the world. -/
def Rp (W : Bs) (n : Nat) (σ : SS) (a : Act) (w : World) : Prop := ∃ β, Rep W n β σ a w
/-- An operation of a region as a step, also one that hangs on another's answer. -/
def GStep (P : Program) (W : Bs) (n : Nat) (ops : Array Oper) (o : Oper) (σ σ' : SS) : Prop :=
  ∀ (a : Act) (w : World) (Q : Exit → Act → World → Prop), Rp W n σ a w → if Region.wanted o (yielded ops a.tmps) = true then Oper.wp P o a w (fun a' w' => Rp W n σ' a' w') Q else Rp W n σ' (a.put o.dst undef) w
theorem Step.g {P : Program} {W : Bs} {n : Nat} {ops : Array Oper} {o : Oper} {σ σ' : SS} (hg : o.guard = none) (h : Step P W n o σ σ') : GStep P W n ops o σ σ' := by
  rintro a w Q ⟨β, hr⟩
  have : Region.wanted o (yielded ops a.tmps) = true := by simp [Region.wanted, hg]
  rw [if_pos this]
  exact Oper.wp_mono (fun a' w' h => h) (h β a w Q hr)
/-- What a guarded operation asks. -/
def SS.yes (ops : Array Oper) (n : Nat) (σ : SS) (j : Nat) : Option Bool := match (ops[j]?).bind (·.dst) with
  | some d => if d < n then (match σ.s d with
    | some ⟨.bool b, none, _, none⟩ => some b
    | _ => none) else none
  | none => none
theorem yes_eq {W : Bs} {n : Nat} {ops : Array Oper} {σ : SS} {a : Act} {w : World} (h : Rp W n σ a w) {j : Nat} {b : Bool} (hy : σ.yes ops n j = some b) : yielded ops a.tmps j = some b := by
  obtain ⟨β, hr⟩ := h
  unfold SS.yes at hy
  unfold yielded
  cases hd : (ops[j]?).bind (·.dst) with
  | none => rw [hd] at hy; cases hy
  | some d =>
    rw [hd] at hy
    simp only [Option.bind_some]
    by_cases hn : d < n
    · simp only [hn, if_true] at hy
      have hsl := hr.sl d
      generalize σ.s d = t at hy hsl
      split at hy
      · cases hy
        rw [hsl _ hn rfl]
        rfl
      · cases hy
    · simp [hn] at hy
theorem Step.yes {P : Program} {W : Bs} {n : Nat} {ops : Array Oper} {o : Oper} {σ σ' : SS} (j : Nat) (b : Bool) (hg : o.guard = some (j, b)) (hy : σ.yes ops n j = some b) (h : Step P W n o σ σ') : GStep P W n ops o σ σ' := by
  intro a w Q hr
  have : Region.wanted o (yielded ops a.tmps) = true := by simp [Region.wanted, hg, yes_eq hr hy]
  rw [if_pos this]
  obtain ⟨β, hr⟩ := hr
  exact Oper.wp_mono (fun a' w' h => h) (h β a w Q hr)
theorem Step.no {P : Program} {W : Bs} {n : Nat} {ops : Array Oper} {o : Oper} {σ : SS} (j : Nat) (b : Bool) (hg : o.guard = some (j, b)) (hy : σ.yes ops n j = some (!b)) : GStep P W n ops o σ (σ.set o.dst (.val undef)) := by
  intro a w Q hr
  have : Region.wanted o (yielded ops a.tmps) = false := by
    have h1 := yes_eq hr hy
    cases b <;> simp [Region.wanted, hg, h1]
  rw [this]
  simp only [Bool.false_eq_true, if_false]
  obtain ⟨β, hr⟩ := hr
  exact ⟨β, hr.put o.dst (.val undef) val_hp val_hu⟩
/-- Those that must have come up. -/
def deps (o : Oper) : List Nat := o.after.toList.filterMap fun e => if Region.binds .any e = true then some e.on else none
theorem mem_deps {o : Oper} {j : Nat} : j ∈ deps o ↔ ∃ e ∈ o.after, Region.binds .any e = true ∧ e.on = j := by
  simp [deps, List.mem_filterMap]
def Closed (ops : Array Oper) (L : Nat → Bool) : Prop := ∀ k o, ops[k]? = some o → L k = true → ∀ j ∈ deps o, L j = true
def has (ds : List Nat) (k : Nat) : Bool := match ds with
  | [] => false
  | d :: r => Nat.beq d k || has r k
theorem has_mem {k : Nat} : ∀ {ds : List Nat}, has ds k = true → k ∈ ds
  | [], h => by cases h
  | d :: r, h => by
    simp only [has, Bool.or_eq_true] at h
    rcases h with h | h
    · simp [Nat.eq_of_beq_eq_true h]
    · simp [has_mem h]
/-- What is asked of the order alone: who must have come up stands ahead, and two that part not wait for each other. -/
def lessAll (k : Nat) : List Nat → Bool
  | [] => true
  | d :: r => Nat.blt d k && lessAll k r
def apartAll (y : OE) (ds : List Nat) : Nat → List OE → Bool
  | _, [] => true
  | i, x :: r => (x.apart y || has ds i) && apartAll y ds (i + 1) r
def okFrom : List OE → Nat → List Oper → List OE → Bool
  | _, _, [], [] => true
  | seen, k, o :: os, y :: r => lessAll k (deps o) && apartAll y (deps o) 0 seen && okFrom (seen ++ [y]) (k + 1) os r
  | _, _, _, _ => false
def orderOk (ops : Array Oper) (xs : List OE) : Bool := okFrom [] 0 ops.toList xs
theorem lessAll_spec {k : Nat} : ∀ {ds : List Nat}, lessAll k ds = true → ∀ j ∈ ds, j < k
  | [], _, j, hj => by simp at hj
  | d :: r, h, j, hj => by
    simp only [lessAll, Bool.and_eq_true] at h
    rcases List.mem_cons.1 hj with rfl | hj
    · exact Nat.blt_eq ▸ h.1
    · exact lessAll_spec h.2 j hj
theorem apartAll_spec {y : OE} {ds : List Nat} : ∀ {i : Nat} {l : List OE}, apartAll y ds i l = true → ∀ j x, l[j]? = some x → x.apart y = true ∨ (i + j) ∈ ds
  | i, [], _, j, x, hx => by simp at hx
  | i, z :: r, h, j, x, hx => by
    simp only [apartAll, Bool.and_eq_true, Bool.or_eq_true] at h
    cases j with
    | zero =>
      simp at hx
      subst hx
      exact h.1.imp id (fun h => has_mem h)
    | succ j =>
      have := apartAll_spec h.2 j x (by simpa using hx)
      rw [show i + 1 + j = i + (j + 1) by omega] at this
      exact this
theorem okFrom_spec : ∀ {seen : List OE} {k : Nat} {os : List Oper} {r : List OE}, okFrom seen k os r = true → seen.length = k → r.length = os.length ∧ ∀ j o y, os[j]? = some o → r[j]? = some y → (∀ d ∈ deps o, d < k + j) ∧ ∀ i x, i < k + j → (seen ++ r)[i]? = some x → x.apart y = true ∨ i ∈ deps o
  | seen, k, [], [], _, _ => ⟨rfl, fun j o y h => by simp at h⟩
  | seen, k, [], y :: r, h, _ => by simp [okFrom] at h
  | seen, k, o :: os, [], h, _ => by simp [okFrom] at h
  | seen, k, o :: os, y :: r, h, hs => by
    simp only [okFrom, Bool.and_eq_true] at h
    obtain ⟨hl, hr⟩ := okFrom_spec h.2 (by simp [hs])
    refine ⟨by simp [hl], fun j o' y' ho hy => ?_⟩
    cases j with
    | zero =>
      simp at ho hy
      subst ho hy
      refine ⟨fun d hd => by have := lessAll_spec h.1.1 d hd; omega, fun i x hi hx => ?_⟩
      rw [List.getElem?_append_left (by omega)] at hx
      have := apartAll_spec h.1.2 i x hx
      rw [Nat.zero_add] at this
      exact this
    | succ j =>
      have := hr j o' y' (by simpa using ho) (by simpa using hy)
      rw [show k + 1 + j = k + (j + 1) by omega, List.append_assoc] at this
      exact this
def Lof (l : Array Bool) (k : Nat) : Bool := l.getD k false
theorem all_of_ready {ops : Array Oper} {l : Array Bool} (hs : l.size = ops.size) (hlt : ∀ k o, ops[k]? = some o → ∀ j ∈ deps o, j < k) (hr : Region.ready .any ops l = []) : ∀ k, k < ops.size → Lof l k = true := by
  intro k
  induction k using Nat.strongRecOn with
  | ind k ih =>
    intro hk
    cases hc : Lof l k with
    | true => rfl
    | false =>
      have hkl : k < l.size := by omega
      have : k ∈ Region.ready .any ops l := by
        refine mem_ready.2 ⟨?_, ops[k], by simp [hk], fun e he hb => ?_⟩
        · simp only [Lof] at hc
          rw [Array.getD_eq_getD_getElem?] at hc ⊢
          simp only [hkl, Array.getElem?_eq_getElem, Option.getD_some] at hc ⊢
          exact hc
        · have hj : e.on ∈ deps ops[k] := mem_deps.2 ⟨e, he, hb, rfl⟩
          have hjk := hlt k ops[k] (by simp [hk]) _ hj
          exact ih _ hjk (by omega)
      rw [hr] at this
      cases this
/-- A region that draws its order. -/
theorem region_drawn {P : Program} {W : Bs} {n : Nat} {id : Nat} {ops : Array Oper} {Q : Exit → Act → World → Prop} {σ : SS} {a : Act} {w : World} (hm : P.follows .mixedOrders = true) (xs : List OE) (hok : orderOk ops xs = true)
    (hstep : ∀ i o x, ops[i]? = some o → xs[i]? = some x → ∀ L : Nat → Bool, L i = false → (∀ j ∈ deps o, L j = true) → Closed ops L → GStep P W n ops o (run L 0 xs σ) (x.app (run L 0 xs σ)))
    (h : Rp W n σ a w) (hQ : ∀ a' w', Rp W n (run (fun _ => true) 0 xs σ) a' w' → Q .normal a' w') : (Code.region id ops true).wp P Q a w := by
  obtain ⟨hlen', hspec⟩ := okFrom_spec hok rfl
  have hlen : xs.length = ops.size := by simpa using hlen'
  have hlt : ∀ k o, ops[k]? = some o → ∀ j ∈ deps o, j < k := by
    intro k o ho j hj
    have hk : k < ops.size := (Array.getElem?_eq_some_iff.1 ho).1
    have := (hspec k o xs[k] (by simpa using ho) (List.getElem?_eq_getElem (by omega))).1 j hj
    omega
  have hap : ∀ (i k : Nat) (o : Oper) (x y : OE), i < k → ops[k]? = some o → xs[i]? = some x → xs[k]? = some y → x.apart y = true ∨ i ∈ deps o := by
    intro i k o x y hik ho hx hy
    exact (hspec k o y (by simpa using ho) hy).2 i x (by omega) (by simpa using hx)
  have key : ∀ (fuel : Nat) (l : Array Bool) (a : Act) (w : World), l.size = ops.size → l.toList.count false ≤ fuel → Closed ops (Lof l) → Rp W n (run (Lof l) 0 xs σ) a w → wpAny P .any ops Q fuel l a w := by
    intro fuel
    have fin : ∀ (l : Array Bool) (a : Act) (w : World), l.size = ops.size → Region.ready .any ops l = [] → Rp W n (run (Lof l) 0 xs σ) a w → Q .normal a w := by
      intro l a w hs hr hR
      have hA := all_of_ready hs hlt hr
      refine hQ a w ?_
      have : ∀ (k : Nat) (r : List OE) (τ : SS), k + r.length ≤ ops.size → run (Lof l) k r τ = run (fun _ => true) k r τ := by
        intro k r
        induction r generalizing k with
        | nil => intro τ _; rfl
        | cons y r ih =>
          intro τ hk
          simp only [List.length_cons] at hk
          rw [run, run, hA k (by omega)]
          exact ih (k + 1) _ (by omega)
      rw [← this 0 xs σ (by omega)]
      exact hR
    induction fuel with
    | zero =>
      intro l a w hs hc hcl hR
      have hr : Region.ready .any ops l = [] := by
        cases hr : Region.ready .any ops l with
        | nil => rfl
        | cons i r =>
          have hi : i ∈ Region.ready .any ops l := by rw [hr]; simp
          have h1 := (mem_ready.1 hi).1
          have : false ∈ l.toList := by
            rw [Array.getD_eq_getD_getElem?] at h1
            cases hl : l[i]? with
            | none => rw [hl] at h1; cases h1
            | some b =>
              rw [hl] at h1
              simp at h1
              subst h1
              exact List.mem_of_getElem? (by simpa using hl)
          have := List.count_pos_iff.2 this
          omega
      exact ⟨hr, fin l a w hs hr hR⟩
    | succ fuel ih =>
      intro l a w hs hc hcl hR
      refine ⟨fun hr => fin l a w hs hr hR, fun i hi => ?_⟩
      obtain ⟨hu, o, ho, hde⟩ := mem_ready.1 hi
      have hiz : i < ops.size := (Array.getElem?_eq_some_iff.1 ho).1
      have hil : i < l.size := by omega
      have hxi : xs[i]? = some xs[i] := List.getElem?_eq_getElem (by omega)
      have hLi : Lof l i = false := by
        simp only [Lof]
        rw [Array.getD_eq_getD_getElem?] at hu ⊢
        simp only [hil, Array.getElem?_eq_getElem, Option.getD_some] at hu ⊢
        exact hu
      have hdeps : ∀ j ∈ deps o, Lof l j = true := by
        intro j hj
        obtain ⟨e, he, hb, rfl⟩ := mem_deps.1 hj
        exact hde e he hb
      have hmore : run (Lof (l.setIfInBounds i true)) 0 xs σ = xs[i].app (run (Lof l) 0 xs σ) := by
        have hL : Lof (l.setIfInBounds i true) = fun j => if j = 0 + i then true else Lof l j := by
          funext j
          simp only [Lof, Nat.zero_add]
          by_cases e : j = i
          · subst e; simp [hil]
          · rw [if_neg e, getD_set_ne false (Ne.symm e)]
        rw [hL]
        refine run_more i 0 xs σ hxi (by rw [Nat.zero_add]; exact hLi) (fun j y hij hy hl => ?_)
        rw [Nat.zero_add] at hl
        have hj : j < xs.length := (List.getElem?_eq_some_iff.1 hy).1
        have hoj : ops[j]? = some ops[j] := by simp [show j < ops.size by omega]
        rcases hap i j ops[j] xs[i] y hij hoj hxi hy with h1 | h1
        · exact h1
        · have := hcl j ops[j] hoj hl i h1
          rw [hLi] at this
          cases this
      have hs' : (l.setIfInBounds i true).size = ops.size := by simpa using hs
      have hc' : (l.setIfInBounds i true).toList.count false ≤ fuel := by
        have hmem : l.toList[i]? = some false := by
          rw [Array.getElem?_toList]
          simp only [Lof] at hLi
          rw [Array.getD_eq_getD_getElem?] at hLi
          simp only [hil, Array.getElem?_eq_getElem, Option.getD_some] at hLi ⊢
          rw [hLi]
        rw [Array.toList_setIfInBounds]
        have hcount : ∀ (r : List Bool) (i : Nat), r[i]? = some false → (r.set i true).count false + 1 = r.count false := by
          intro r
          induction r with
          | nil => intro i h; simp at h
          | cons b r ih =>
            intro i h
            cases i with
            | zero => simp at h; subst h; simp
            | succ i =>
              have := ih i (by simpa using h)
              simp only [List.set_cons_succ, List.count_cons]
              omega
        have := hcount l.toList i hmem
        omega
      have hcl' : Closed ops (Lof (l.setIfInBounds i true)) := by
        intro k ok hk hLk j hj
        have hup : ∀ j, Lof l j = true → Lof (l.setIfInBounds i true) j = true := fun j h => getD_set_true h
        by_cases e : k = i
        · subst e
          rw [ho] at hk
          cases hk
          exact hup j (hdeps j hj)
        · have : Lof l k = true := by
            simp only [Lof] at hLk ⊢
            rw [getD_set_ne false (Ne.symm e)] at hLk
            exact hLk
          exact hup j (hcl k ok hk this j hj)
      have hg := hstep i o xs[i] ho hxi (Lof l) hLi hdeps hcl a w Q hR
      refine wpOp_step ho (fun K' hK => ?_)
      split
      · rename_i hw
        rw [if_pos hw] at hg
        exact Oper.wp_mono (fun a' w' hR' => hK a' w' (ih _ a' w' hs' hc' hcl' (by rw [hmore]; exact hR'))) hg
      · rename_i hw
        rw [if_neg hw] at hg
        exact hK _ _ (ih _ _ w hs' hc' hcl' (by rw [hmore]; exact hg))
  refine wp_region_any hm ?_
  refine key ops.size _ a _ (by simp) (by simp) ?_ ?_
  · intro k o hk hL
    simp only [Lof] at hL
    rw [Array.getD_eq_getD_getElem?] at hL
    cases hl : (Array.replicate ops.size false)[k]? with
    | none => rw [hl] at hL; cases hL
    | some b =>
      rw [hl] at hL
      have : b = false := by
        have := Array.getElem?_eq_some_iff.1 hl
        obtain ⟨h1, h2⟩ := this
        simpa using h2.symm
      rw [this] at hL
      cases hL
  · have h0 : ∀ (k : Nat) (r : List OE) (τ : SS), run (Lof (Array.replicate ops.size false)) k r τ = τ := by
      intro k r
      induction r generalizing k with
      | nil => intro τ; rfl
      | cons y r ih =>
        intro τ
        have : Lof (Array.replicate ops.size false) k = false := by
          simp only [Lof]
          rw [Array.getD_eq_getD_getElem?]
          cases hl : (Array.replicate ops.size false)[k]? with
          | none => rfl
          | some b =>
            obtain ⟨h1, h2⟩ := Array.getElem?_eq_some_iff.1 hl
            simpa using h2.symm
        rw [run, this]
        exact ih (k + 1) τ
    rw [h0]
    obtain ⟨β, hr⟩ := h
    exact ⟨β, hr.drew⟩


def isSlot (d : Option Nat) (j : Nat) : Bool := match d with
  | some x => Nat.beq x j
  | none => false
theorem isSlot_iff {d : Option Nat} {j : Nat} : isSlot d j = true ↔ d = some j := by
  cases d with
  | none => simp [isSlot]
  | some x => simp [isSlot]
/-- What lies in a slot behind those that have come up, of whom ds are some, and i is none. -/
def lookD (ds : List Nat) (i : Nat) : Nat → List Oper → List OE → Nat → Option SV → Option SV
  | _, _, [], _, v => v
  | _, [], _ :: _, _, _ => none
  | k, o :: os, x :: r, j, v => lookD ds i (k + 1) os r j (bif isSlot x.slot j then (bif has ds k then some x.sv else bif Nat.beq k i || has (deps o) i then v else none) else v)
theorem lookD_ok {ds : List Nat} {j i : Nat} {L : Nat → Bool} (hL : ∀ i ∈ ds, L i = true) (hi : L i = false) : ∀ (os : List Oper) (xs : List OE) (k : Nat) {v0 : Option SV} {v : SV} {σ : SS}, (∀ j o, os[j]? = some o → L (k + j) = true → ∀ e ∈ deps o, L e = true) →
    lookD ds i k os xs j v0 = some v → (∀ u, v0 = some u → σ.s j = some u) → (run L k xs σ).s j = some v
  | os, [], k, v0, v, σ, _, h, h0 => by
    rw [lookD] at h
    exact h0 v h
  | [], x :: r, k, v0, v, σ, _, h, _ => by
    rw [lookD] at h
    cases h
  | o :: os, x :: r, k, v0, v, σ, hc, h, h0 => by
    rw [lookD] at h
    rw [run]
    refine lookD_ok hL hi os r (k + 1) (fun j o' ho hj => hc (j + 1) o' (by simpa using ho) (by rw [show k + (j + 1) = k + 1 + j by omega]; exact hj)) h (fun u hu => ?_)
    cases hs : isSlot x.slot j with
    | false =>
      simp only [hs, cond_false] at hu
      rw [← h0 u hu]
      split
      · rw [OE.app_s, if_neg (fun e => by rw [isSlot_iff.2 e] at hs; cases hs)]
      · rfl
    | true =>
      simp only [hs, cond_true] at hu
      cases hk : has ds k with
      | true =>
        simp only [hk, cond_true, Option.some.injEq] at hu
        rw [hL k (has_mem hk), if_pos rfl, OE.app_s, if_pos (isSlot_iff.1 hs), hu]
      | false =>
        simp only [hk, cond_false] at hu
        cases hb : Nat.beq k i || has (deps o) i with
        | false => simp [hb] at hu
        | true =>
          simp only [hb, cond_true] at hu
          have hk0 : L k = false := by
            simp only [Bool.or_eq_true] at hb
            rcases hb with hb | hb
            · rw [Nat.eq_of_beq_eq_true hb]; exact hi
            · cases hLk : L k with
              | false => rfl
              | true =>
                have := hc 0 o rfl hLk i (has_mem hb)
                rw [hi] at this
                cases this
          rw [hk0]
          simp only [Bool.false_eq_true, if_false]
          exact h0 u hu
/-- What a variable's cells are. -/
def lookM (ds : List Nat) (i : Nat) : Nat → List Oper → List OE → Nat → Option (Option (List Value)) → Option (Option (List Value))
  | _, _, [], _, v => v
  | _, [], _ :: _, _, _ => none
  | k, o :: os, x :: r, y, v => lookM ds i (k + 1) os r y (bif isSlot (x.touch) y then (bif has ds k then some (some x.cells) else bif Nat.beq k i || has (deps o) i then v else none) else v)
theorem lookM_ok {ds : List Nat} {y i : Nat} {L : Nat → Bool} (hL : ∀ i ∈ ds, L i = true) (hi : L i = false) : ∀ (os : List Oper) (xs : List OE) (k : Nat) {v0 : Option (Option (List Value))} {v : Option (List Value)} {σ : SS}, (∀ j o, os[j]? = some o → L (k + j) = true → ∀ e ∈ deps o, L e = true) →
    lookM ds i k os xs y v0 = some v → (∀ u, v0 = some u → σ.m y = u) → (run L k xs σ).m y = v
  | os, [], k, v0, v, σ, _, h, h0 => by
    rw [lookM] at h
    exact h0 v h
  | [], x :: r, k, v0, v, σ, _, h, _ => by
    rw [lookM] at h
    cases h
  | o :: os, x :: r, k, v0, v, σ, hc, h, h0 => by
    rw [lookM] at h
    rw [run]
    refine lookM_ok hL hi os r (k + 1) (fun j o' ho hj => hc (j + 1) o' (by simpa using ho) (by rw [show k + (j + 1) = k + 1 + j by omega]; exact hj)) h (fun u hu => ?_)
    cases hs : isSlot (x.touch) y with
    | false =>
      simp only [hs, cond_false] at hu
      rw [← h0 u hu]
      split
      · rw [OE.app_m, if_neg (fun e => by rw [isSlot_iff.2 e] at hs; cases hs)]
      · rfl
    | true =>
      simp only [hs, cond_true] at hu
      cases hk : has ds k with
      | true =>
        simp only [hk, cond_true, Option.some.injEq] at hu
        rw [hL k (has_mem hk), if_pos rfl, OE.app_m, if_pos (isSlot_iff.1 hs)]
        exact hu
      | false =>
        simp only [hk, cond_false] at hu
        cases hb : Nat.beq k i || has (deps o) i with
        | false => simp [hb] at hu
        | true =>
          simp only [hb, cond_true] at hu
          have hk0 : L k = false := by
            simp only [Bool.or_eq_true] at hb
            rcases hb with hb | hb
            · rw [Nat.eq_of_beq_eq_true hb]; exact hi
            · cases hLk : L k with
              | false => rfl
              | true =>
                have := hc 0 o rfl hLk i (has_mem hb)
                rw [hi] at this
                cases this
          rw [hk0]
          simp only [Bool.false_eq_true, if_false]
          exact h0 u hu
/-- An operation that comes up: who has come up, and who has not. -/
structure Up (ops : Array Oper) (i : Nat) (o : Oper) (L : Nat → Bool) : Prop where
  no : L i = false
  deps : ∀ j ∈ deps o, L j = true
  cl : Closed ops L
def lookO (n : Nat) (ops : Array Oper) (i : Nat) (o : Oper) (xs : List OE) (σ : SS) : Operand → Option SV
  | .tmp j => bif Nat.blt j n then lookD (deps o) i 0 ops.toList xs j (σ.s j) else some (.val undef)
  | .const v => some (.val v)
  | .global g => some (.val (.pointer (some ⟨g, 0, none⟩)))
  | .func f => some (.val (.func (.func f) #[] #[]))
theorem Up.ev {ops : Array Oper} {i : Nat} {o : Oper} {L : Nat → Bool} (u : Up ops i o L) {n : Nat} {xs : List OE} {σ : SS} {x : Operand} {v : SV} (h : lookO n ops i o xs σ x = some v) : (run L 0 xs σ).ev n x = some v := by
  cases x with
  | tmp j =>
    simp only [lookO] at h
    simp only [SS.ev]
    cases hj : Nat.blt j n with
    | true =>
      simp only [hj, cond_true] at h
      rw [if_pos (Nat.blt_eq ▸ hj : j < n)]
      exact lookD_ok u.deps u.no ops.toList xs 0 (fun j o' ho hj e he => u.cl j o' (by simpa using ho) (by simpa using hj) e he) h (fun u hu => hu)
    | false =>
      simp only [hj, cond_false] at h
      rw [if_neg (fun e : j < n => by rw [show Nat.blt j n = true from Nat.blt_eq ▸ e] at hj; cases hj)]
      exact h
  | _ => simpa [lookO, SS.ev] using h
theorem Up.m {ops : Array Oper} {i : Nat} {o : Oper} {L : Nat → Bool} (u : Up ops i o L) {xs : List OE} {σ : SS} {y : Nat} {v : Option (List Value)} (h : lookM (Proofs.Ytjgpopjpmfkfmaa.deps o) i 0 ops.toList xs y (some (σ.m y)) = some v) : (run L 0 xs σ).m y = v :=
  lookM_ok u.deps u.no ops.toList xs 0 (fun j o' ho hj e he => u.cl j o' (by simpa using ho) (by simpa using hj) e he) h (fun u hu => by cases hu; rfl)
/-- Each operation's step. -/
def AllSt (P : Program) (W : Bs) (n : Nat) (ops : Array Oper) (xs : List OE) (σ : SS) : Nat → List Oper → List OE → Prop
  | _, [], _ => True
  | _, _ :: _, [] => False
  | i, o :: os, x :: r => (∀ L : Nat → Bool, Up ops i o L → GStep P W n ops o (run L 0 xs σ) (x.app (run L 0 xs σ))) ∧ AllSt P W n ops xs σ (i + 1) os r
theorem AllSt.at {P : Program} {W : Bs} {n : Nat} {ops : Array Oper} {xs : List OE} {σ : SS} : ∀ {i : Nat} {os : List Oper} {r : List OE}, AllSt P W n ops xs σ i os r → ∀ {j : Nat} {o : Oper} {x : OE}, os[j]? = some o → r[j]? = some x → ∀ L : Nat → Bool, Up ops (i + j) o L → GStep P W n ops o (run L 0 xs σ) (x.app (run L 0 xs σ))
  | i, [], r, _, j, o, x, ho, _, _, _ => by simp at ho
  | i, o' :: os, [], h, j, o, x, _, hx, _, _ => by simp at hx
  | i, o' :: os, x' :: r, h, j, o, x, ho, hx, L, u => by
    cases j with
    | zero =>
      simp at ho hx
      subst ho hx
      exact h.1 L u
    | succ j => exact AllSt.at h.2 (by simpa using ho) (by simpa using hx) L (by rw [show i + 1 + j = i + (j + 1) by omega]; exact u)
/-- A region that keeps to the text's order. -/
theorem region_plain {P : Program} {W : Bs} {n : Nat} {id : Nat} {ops : Array Oper} {Q : Exit → Act → World → Prop} {σ : SS} {a : Act} {w : World} (xs : List OE) (hok : orderOk ops xs = true)
    (hstep : ∀ i o x, ops[i]? = some o → xs[i]? = some x → ∀ L : Nat → Bool, L i = false → (∀ j ∈ deps o, L j = true) → Closed ops L → GStep P W n ops o (run L 0 xs σ) (x.app (run L 0 xs σ)))
    (h : Rp W n σ a w) (hQ : ∀ a' w', Rp W n (run (fun _ => true) 0 xs σ) a' w' → Q .normal a' w') : (Code.region id ops false).wp P Q a w := by
  obtain ⟨hlen', hspec⟩ := okFrom_spec hok rfl
  have hlen : xs.length = ops.size := by simpa using hlen'
  have hlt : ∀ k o, ops[k]? = some o → ∀ j ∈ deps o, j < k := by
    intro k o ho j hj
    have hk : k < ops.size := (Array.getElem?_eq_some_iff.1 ho).1
    have := (hspec k o xs[k] (by simpa using ho) (List.getElem?_eq_getElem (by omega))).1 j hj
    omega
  let L : Nat → Nat → Bool := fun i j => decide (j < i)
  have key : ∀ (m i : Nat) (a : Act) (w : World), i + m = ops.size → Rp W n (run (L i) 0 xs σ) a w → wpOps P ops Q (List.range' i m) a w := by
    intro m
    induction m with
    | zero =>
      intro i a w hi hR
      refine hQ a w ?_
      have : ∀ (k : Nat) (r : List OE) (τ : SS), k + r.length ≤ ops.size → run (L i) k r τ = run (fun _ => true) k r τ := by
        intro k r
        induction r generalizing k with
        | nil => intro τ _; rfl
        | cons y r ih =>
          intro τ hk
          simp only [List.length_cons] at hk
          rw [run, run, show L i k = true by simp [L]; omega]
          exact ih (k + 1) _ (by omega)
      rw [← this 0 xs σ (by omega)]
      exact hR
    | succ m ih =>
      intro i a w hi hR
      have hiz : i < ops.size := by omega
      have ho : ops[i]? = some ops[i] := by simp [hiz]
      have hx : xs[i]? = some xs[i] := List.getElem?_eq_getElem (by omega)
      have hg := hstep i ops[i] xs[i] ho hx (L i) (by simp [L]) (fun j hj => by have := hlt i _ ho j hj; simp [L]; omega) (fun k ok hk hLk j hj => by
        have := hlt k ok hk j hj
        simp only [L, decide_eq_true_eq] at hLk ⊢
        omega) a w Q hR
      have hmore : run (L (i + 1)) 0 xs σ = xs[i].app (run (L i) 0 xs σ) := by
        have hL : L (i + 1) = fun j => if j = 0 + i then true else L i j := by
          funext j
          simp only [L, Nat.zero_add]
          by_cases e : j = i
          · subst e; simp
          · rw [if_neg e]
            have : (j < i + 1) = (j < i) := by apply propext; omega
            simp [this]
        rw [hL]
        exact run_more i 0 xs σ hx (by simp [L]) (fun j y hij _ hl => by simp [L] at hl; omega)
      rw [List.range'_succ, wpOps_cons]
      refine wpOp_step ho (fun K' hK => ?_)
      split
      · rename_i hw
        rw [if_pos hw] at hg
        exact Oper.wp_mono (fun a' w' hR' => hK a' w' (ih (i + 1) a' w' (by omega) (by rw [hmore]; exact hR'))) hg
      · rename_i hw
        rw [if_neg hw] at hg
        exact hK _ _ (ih (i + 1) _ w (by omega) (by rw [hmore]; exact hg))
  refine wp_region ?_
  rw [List.range_eq_range']
  refine key ops.size 0 a w (by omega) ?_
  have h0 : ∀ (k : Nat) (r : List OE) (τ : SS), run (L 0) k r τ = τ := by
    intro k r
    induction r generalizing k with
    | nil => intro τ; rfl
    | cons y r ih =>
      intro τ
      rw [run, show L 0 k = false by simp [L]]
      exact ih (k + 1) τ
  rw [h0]
  exact h
/-- A region, drawn or not. -/
theorem region_any {P : Program} {W : Bs} {n : Nat} {id : Nat} {ops : Array Oper} {b : Bool} {Q : Exit → Act → World → Prop} {σ : SS} {a : Act} {w : World} (h : Rp W n σ a w) (hm : P.follows .mixedOrders = true) (xs : List OE) (hok : orderOk ops xs = true)
    (hstep : AllSt P W n ops xs σ 0 ops.toList xs) (hQ : ∀ a' w', Rp W n (run (fun _ => true) 0 xs σ) a' w' → Q .normal a' w') : (Code.region id ops b).wp P Q a w := by
  have hs : ∀ i o x, ops[i]? = some o → xs[i]? = some x → ∀ L : Nat → Bool, L i = false → (∀ j ∈ deps o, L j = true) → Closed ops L → GStep P W n ops o (run L 0 xs σ) (x.app (run L 0 xs σ)) := by
    intro i o x ho hx L h1 h2 h3
    exact AllSt.at hstep (j := i) (by simpa using ho) hx L (by rw [Nat.zero_add]; exact ⟨h1, h2, h3⟩)
  cases b with
  | true => exact region_drawn hm xs hok hs h hQ
  | false => exact region_plain xs hok hs h hQ


/-- The state at a function's beginning. -/
def lkS : List (Nat × SV) → Nat → Option SV
  | [], _ => none
  | q :: r, j => bif Nat.beq q.1 j then some q.2 else lkS r j
def lkM : List (Nat × List Value) → Nat → Option (List Value)
  | [], _ => none
  | q :: r, j => bif Nat.beq q.1 j then some q.2 else lkM r j
/-- A state, written out. -/
def lkQ : List (Nat × Pd) → Nat → Option Pd
  | [], _ => none
  | q :: r, j => bif Nat.beq q.1 j then some q.2 else lkQ r j
def SS.mkQ (s : List (Nat × SV)) (m : List (Nat × List Value)) (q : List (Nat × Pd)) : SS := ⟨lkS s, lkM m, lkQ q⟩
def SS.mk' (s : List (Nat × SV)) (m : List (Nat × List Value)) : SS := ⟨lkS s, lkM m, lkQ []⟩
def AllQ (f : Nat → Option Pd) : List (Nat × Pd) → Prop
  | [] => True
  | q :: r => f q.1 = some q.2 ∧ AllQ f r
theorem AllQ.lk {f : Nat → Option Pd} : ∀ {l : List (Nat × Pd)}, AllQ f l → ∀ {j : Nat} {v : Pd}, lkQ l j = some v → f j = some v
  | [], _, j, v, h => by cases h
  | q :: r, hl, j, v, h => by
    rw [lkQ] at h
    cases hb : Nat.beq q.1 j with
    | true =>
      simp only [hb, cond_true, Option.some.injEq] at h
      rw [← Nat.eq_of_beq_eq_true hb, ← h]
      exact hl.1
    | false =>
      simp only [hb, cond_false] at h
      exact hl.2.lk h
/-- What is known is known of another state too. -/
def AllS (f : Nat → Option SV) : List (Nat × SV) → Prop
  | [] => True
  | q :: r => f q.1 = some q.2 ∧ AllS f r
def AllM (f : Nat → Option (List Value)) : List (Nat × List Value) → Prop
  | [] => True
  | q :: r => f q.1 = some q.2 ∧ AllM f r
def aimQ (m : List (Nat × List Value)) (q : List (Nat × Pd)) : List (Nat × SV) → Bool
  | [] => true
  | z :: r => (match z.2.p with
    | some (x, _) => (lkM m x).isSome
    | none => true) && (match z.2.u with
    | some (x, _) => (lkQ q x).isSome
    | none => true) && aimQ m q r
def aimed (m : List (Nat × List Value)) (s : List (Nat × SV)) : Bool := aimQ m [] s
theorem AllS.lk {f : Nat → Option SV} : ∀ {l : List (Nat × SV)}, AllS f l → ∀ {j : Nat} {v : SV}, lkS l j = some v → f j = some v
  | [], _, j, v, h => by cases h
  | q :: r, hl, j, v, h => by
    rw [lkS] at h
    cases hb : Nat.beq q.1 j with
    | true =>
      simp only [hb, cond_true, Option.some.injEq] at h
      rw [← Nat.eq_of_beq_eq_true hb, ← h]
      exact hl.1
    | false =>
      simp only [hb, cond_false] at h
      exact hl.2.lk h
theorem AllM.lk {f : Nat → Option (List Value)} : ∀ {l : List (Nat × List Value)}, AllM f l → ∀ {j : Nat} {v : List Value}, lkM l j = some v → f j = some v
  | [], _, j, v, h => by cases h
  | q :: r, hl, j, v, h => by
    rw [lkM] at h
    cases hb : Nat.beq q.1 j with
    | true =>
      simp only [hb, cond_true, Option.some.injEq] at h
      rw [← Nat.eq_of_beq_eq_true hb, ← h]
      exact hl.1
    | false =>
      simp only [hb, cond_false] at h
      exact hl.2.lk h
theorem aimQ_lk {m : List (Nat × List Value)} {q : List (Nat × Pd)} : ∀ {l : List (Nat × SV)}, aimQ m q l = true → ∀ {j : Nat} {v : SV}, lkS l j = some v → (∀ x o, v.p = some (x, o) → (lkM m x).isSome = true) ∧ (∀ x g, v.u = some (x, g) → (lkQ q x).isSome = true)
  | [], _, j, v, h => by cases h
  | z :: r, hl, j, v, h => by
    simp only [aimQ, Bool.and_eq_true] at hl
    rw [lkS] at h
    cases hb : Nat.beq z.1 j with
    | true =>
      simp only [hb, cond_true, Option.some.injEq] at h
      have h1 := hl.1.1
      have h2 := hl.1.2
      rw [h] at h1 h2
      refine ⟨fun x o hp => ?_, fun x g hp => ?_⟩
      · rw [hp] at h1; exact h1
      · rw [hp] at h2; exact h2
    | false =>
      simp only [hb, cond_false] at h
      exact aimQ_lk hl.2 h
theorem QOk.sub {W : Bs} {n : Nat} {β : Nat → Loc} {σ σ' : SS} {w : World} (h : QOk W n β σ w) (e1 : ∀ x p, σ'.q x = some p → σ.q x = some p) (e2 : ∀ y, (σ'.m y).isSome = true → (σ.m y).isSome = true) (e4 : ∀ j v x g, j < n → σ'.s j = some v → v.u = some (x, g) → (σ'.q x).isSome = true) : QOk W n β σ' w := by
  have e1' : ∀ x, (σ'.q x).isSome = true → (σ.q x).isSome = true := fun x hx => by
    obtain ⟨p, hp⟩ := Option.isSome_iff_exists.1 hx
    rw [e1 x p hp]; rfl
  exact ⟨fun x p hx => h.qa x p (e1 x p hx), fun x y hx hy => h.qm x y (e1' x hx) (e2 y hy), fun x y hx hy => h.qq x y (e1' x hx) (e1' y hy), e4⟩
/-- What isn't wanted any more is let go. -/
theorem Rp.keepQ {W : Bs} {n : Nat} {σ : SS} {a : Act} {w : World} (h : Rp W n σ a w) (s : List (Nat × SV)) (m : List (Nat × List Value)) (q : List (Nat × Pd)) (h1 : AllS σ.s s) (h2 : AllM σ.m m) (hq : AllQ σ.q q) (h3 : aimQ m q s = true) : Rp W n (SS.mkQ s m q) a w := by
  obtain ⟨β, hr⟩ := h
  refine ⟨β, hr.df, hr.sz, fun j v hj hv => hr.sl j v hj (h1.lk hv), hr.bl, fun x cs hx => hr.va x cs (h2.lk hx), fun x y hx hy hn => ?_, fun j v x o hj hv e => (aimQ_lk h3 hv).1 x o e, hr.qk.sub (fun x p hx => hq.lk hx) (fun y hy => ?_) (fun j v x g hj hv e => (aimQ_lk h3 hv).2 x g e)⟩
  · obtain ⟨cx, hcx⟩ := Option.isSome_iff_exists.1 hx
    obtain ⟨cy, hcy⟩ := Option.isSome_iff_exists.1 hy
    exact hr.ne x y (by rw [h2.lk hcx]; rfl) (by rw [h2.lk hcy]; rfl) hn
  · obtain ⟨cy, hcy⟩ := Option.isSome_iff_exists.1 hy
    rw [h2.lk hcy]; rfl
theorem Rp.keep {W : Bs} {n : Nat} {σ : SS} {a : Act} {w : World} (h : Rp W n σ a w) (s : List (Nat × SV)) (m : List (Nat × List Value)) (h1 : AllS σ.s s) (h2 : AllM σ.m m) (h3 : aimed m s = true) : Rp W n (SS.mk' s m) a w := h.keepQ s m [] h1 h2 trivial h3
def SS.init (args : List Value) : SS := ⟨fun j => some (.val (args.getD j undef)), fun _ => none, fun _ => none⟩
theorem enter {P : Program} {f : FuncId} {fn : Func} {c : Code} {args : List Value} {w : World} {R : Ending → World → Prop} (hf : P.funcs[f]? = some fn) (hb : fn.body = some c) (n : Nat) (hn : fn.ntmps = n) (hl : args.length ≤ n)
    (h : ∀ a, Rp (Bs.of w) n (SS.init args) a w → c.wp P (bodyPost P fn R) a w) : Calls P f args.toArray w R := by
  refine calls_of_wp hf hb (h _ ⟨fun _ => ⟨0, undef, fun _ => false⟩, rfl, ?_, ?_, Kp.refl _ _, fun x cs hx => (by cases hx), fun x y hx => (by cases hx), fun j v x o _ hv e => (by cases hv; cases e), ⟨fun x p hx => (by cases hx), fun x y hx => (by cases hx), fun x y hx => (by cases hx), fun j v x g _ hv e => (by cases hv; cases e)⟩⟩)
  · simp [hn]; omega
  · intro j v hj hv
    cases hv
    simp only [SV.at]
    by_cases h1 : j < args.length
    · rw [Array.getElem?_append_left (by simpa using h1)]
      simp [h1]
    · rw [Array.getElem?_append_right (by simpa using h1)]
      have h2 : (Array.replicate (fn.ntmps - args.toArray.size) undef)[j - args.toArray.size]? = some undef := by
        rw [Array.getElem?_replicate, if_pos (by simp [hn]; omega)]
      rw [h2, List.getD_eq_getElem?_getD, List.getElem?_eq_none (Nat.le_of_not_lt h1)]
      rfl
theorem Rp.grows {w0 : World} {n : Nat} {σ : SS} {a : Act} {w : World} (h : Rp (Bs.of w0) n σ a w) : Below w0.heap.size w0 w := let ⟨_, h⟩ := h; Bs.kp_of h.bl
/-- A function that is handed the address of a block that it may write. -/
theorem enterX {P : Program} {f : FuncId} {fn : Func} {c : Code} {args : List Value} {w : World} {R : Ending → World → Prop} (hf : P.funcs[f]? = some fn) (hb : fn.body = some c) (n : Nat) (hn : fn.ntmps = n) (hl : args.length ≤ n) (x b : Nat) (cs : List Value) (h3 : w.rangeAt b 0 cs) (h4 : w.there b 0 cs.length) (hlt : b < w.heap.size) (s : List (Nat × SV)) (hs : ∀ β : Nat → Loc, (β x).b = b → ∀ j v, lkS s j = some v → v.at β = args.getD j undef) (ha : aimed [(x, cs)] s = true)
    (h : ∀ a, Rp ⟨w, fun k => Nat.beq k b, []⟩ n (SS.mk' s [(x, cs)]) a w → c.wp P (bodyPost P fn R) a w) : Calls P f args.toArray w R := by
  refine calls_of_wp hf hb (h _ ⟨fun _ => ⟨b, undef, fun _ => false⟩, rfl, ?_, fun j v hj hv => ?_, Kp.refl _ _, fun y cy hy => ?_, fun y z hy hz hne => ?_, fun j v y o hj hv e => (aimQ_lk ha hv).1 y o e, ⟨fun x p hx => (by cases hx), fun x y hx => (by cases hx), fun x y hx => (by cases hx), fun j v x g _ hv e => (aimQ_lk ha hv).2 x g e⟩⟩)
  · simp [hn]; omega
  · have e := hs (fun _ => ⟨b, undef, fun _ => false⟩) rfl j v hv
    rw [e]
    by_cases h1 : j < args.length
    · rw [Array.getElem?_append_left (by simpa using h1)]
      simp [h1]
    · rw [Array.getElem?_append_right (by simpa using h1)]
      have h2 : (Array.replicate (fn.ntmps - args.toArray.size) undef)[j - args.toArray.size]? = some undef := by
        rw [Array.getElem?_replicate, if_pos (by simp [hn]; omega)]
      rw [h2, List.getD_eq_getElem?_getD, List.getElem?_eq_none (Nat.le_of_not_lt h1)]
      rfl
  · have hyx : x = y ∧ cs = cy := by
      simp only [SS.mk', lkM] at hy
      cases hb : Nat.beq x y with
      | true =>
        simp only [hb, cond_true, Option.some.injEq] at hy
        exact ⟨Nat.eq_of_beq_eq_true hb, hy⟩
      | false => simp [hb] at hy
    rw [← hyx.2]
    exact ⟨Or.inr (Nat.beq_refl b), hlt, h3, h4⟩
  · have one : ∀ y, (lkM [(x, cs)] y).isSome = true → x = y := fun y hy => by
      simp only [lkM] at hy
      cases hb : Nat.beq x y with
      | true => exact Nat.eq_of_beq_eq_true hb
      | false => simp [hb] at hy
    exact absurd ((one y hy).symm.trans (one z hz)) hne
theorem go_region {P : Program} {W : Bs} {n : Nat} {id : Nat} {ops : Array Oper} {b : Bool} {y : Code} {Q : Exit → Act → World → Prop} {σ : SS} {a : Act} {w : World} (h : Rp W n σ a w) (hm : P.follows .mixedOrders = true) (xs : List OE) (hok : orderOk ops xs = true)
    (hstep : AllSt P W n ops xs σ 0 ops.toList xs) (s : List (Nat × SV)) (m : List (Nat × List Value)) (h1 : AllS (run (fun _ => true) 0 xs σ).s s) (h2 : AllM (run (fun _ => true) 0 xs σ).m m) (h3 : aimed m s = true) (hk : ∀ a' w', Rp W n (SS.mk' s m) a' w' → y.wp P Q a' w') : (Code.seq (Code.region id ops b) y).wp P Q a w :=
  wp_seq (region_any h hm xs hok hstep (fun a' w' h' => hk a' w' (h'.keep s m h1 h2 h3)))
theorem go_regionQ {P : Program} {W : Bs} {n : Nat} {id : Nat} {ops : Array Oper} {b : Bool} {y : Code} {Q : Exit → Act → World → Prop} {σ : SS} {a : Act} {w : World} (h : Rp W n σ a w) (hm : P.follows .mixedOrders = true) (xs : List OE) (hok : orderOk ops xs = true)
    (hstep : AllSt P W n ops xs σ 0 ops.toList xs) (s : List (Nat × SV)) (m : List (Nat × List Value)) (q : List (Nat × Pd)) (h1 : AllS (run (fun _ => true) 0 xs σ).s s) (h2 : AllM (run (fun _ => true) 0 xs σ).m m) (hq : AllQ (run (fun _ => true) 0 xs σ).q q) (h3 : aimQ m q s = true) (hk : ∀ a' w', Rp W n (SS.mkQ s m q) a' w' → y.wp P Q a' w') : (Code.seq (Code.region id ops b) y).wp P Q a w :=
  wp_seq (region_any h hm xs hok hstep (fun a' w' h' => hk a' w' (h'.keepQ s m q h1 h2 hq h3)))
theorem Rp.below {W : Bs} {n : Nat} {σ : SS} {a : Act} {w : World} (h : Rp W n σ a w) : W.kp w := let ⟨_, h⟩ := h; h.bl
theorem then_ret {K : Act → World → Prop} {Q : Exit → Act → World → Prop} {a : Act} {w : World} (h : Q .ret a w) : Exit.then K Q .ret a w := h
/-- A loop, by a row of states. -/
theorem go_loop {P : Program} {W : Bs} {n : Nat} {c : Code} {Q : Exit → Act → World → Prop} {ι : Type} (τ : ι → SS) (G : ι → Prop) (μ : ι → Nat) {i : ι} {a : Act} {w : World} (h : Rp W n (τ i) a w) (hG : G i) (round : ∀ i a w, G i → Rp W n (τ i) a w → c.wp P (Exit.then (fun a' w' => ∃ j, G j ∧ μ j < μ i ∧ Rp W n (τ j) a' w') Q) a w) : (Code.loop c).wp P Q a w := by
  have key : ∀ (m : Nat) (i : ι) (a : Act) (w : World), μ i = m → G i → Rp W n (τ i) a w → (Code.loop c).wp P Q a w := by
    intro m i a w hm hGi hR
    refine wp_loop (fun a w => ∃ i, G i ∧ Rp W n (τ i) a w) (fun a w => @dite Nat (∃ i, G i ∧ Rp W n (τ i) a w) (Classical.propDecidable _) (fun e => Classical.epsilon fun k => (∃ i, G i ∧ Rp W n (τ i) a w ∧ μ i = k) ∧ ∀ j, G j → Rp W n (τ j) a w → k ≤ μ j) (fun _ => 0)) ⟨i, hGi, hR⟩ ?_
    rintro a w he
    have hmin : ∃ k, (∃ i, G i ∧ Rp W n (τ i) a w ∧ μ i = k) ∧ ∀ j, G j → Rp W n (τ j) a w → k ≤ μ j := by
      obtain ⟨i, h1, h2⟩ := he
      have : ∀ (m : Nat) (i : ι), μ i = m → G i → Rp W n (τ i) a w → ∃ k, (∃ i, G i ∧ Rp W n (τ i) a w ∧ μ i = k) ∧ ∀ j, G j → Rp W n (τ j) a w → k ≤ μ j := by
        intro m
        induction m using Nat.strongRecOn with
        | ind m ih =>
          intro i hi h1 h2
          by_cases hx : ∃ j, G j ∧ Rp W n (τ j) a w ∧ μ j < m
          · obtain ⟨j, j1, j2, j3⟩ := hx
            exact ih (μ j) j3 j rfl j1 j2
          · refine ⟨m, ⟨i, h1, h2, hi⟩, fun j j1 j2 => ?_⟩
            rcases Nat.lt_or_ge (μ j) m with h | h
            · exact absurd ⟨j, j1, j2, h⟩ hx
            · exact h
      exact this _ i rfl h1 h2
    have hs := Classical.epsilon_spec hmin
    obtain ⟨⟨i, i1, i2, i3⟩, _⟩ := hs
    refine Code.wp_mono (fun e a' w' q => ?_) (round i a w i1 i2)
    cases e with
    | normal =>
      obtain ⟨j, j1, j2, j3⟩ := q
      refine ⟨⟨j, j1, j3⟩, ?_⟩
      have he' : ∃ i, G i ∧ Rp W n (τ i) a' w' := ⟨j, j1, j3⟩
      have hmin' : ∃ k, (∃ i, G i ∧ Rp W n (τ i) a' w' ∧ μ i = k) ∧ ∀ j, G j → Rp W n (τ j) a' w' → k ≤ μ j := by
        have : ∀ (m : Nat) (i : ι), μ i = m → G i → Rp W n (τ i) a' w' → ∃ k, (∃ i, G i ∧ Rp W n (τ i) a' w' ∧ μ i = k) ∧ ∀ j, G j → Rp W n (τ j) a' w' → k ≤ μ j := by
          intro m
          induction m using Nat.strongRecOn with
          | ind m ih =>
            intro i hi h1 h2
            by_cases hx : ∃ j, G j ∧ Rp W n (τ j) a' w' ∧ μ j < m
            · obtain ⟨j, j1, j2, j3⟩ := hx
              exact ih (μ j) j3 j rfl j1 j2
            · refine ⟨m, ⟨i, h1, h2, hi⟩, fun j j1 j2 => ?_⟩
              rcases Nat.lt_or_ge (μ j) m with h | h
              · exact absurd ⟨j, j1, j2, h⟩ hx
              · exact h
        exact this _ j rfl j1 j3
      have hs' := Classical.epsilon_spec hmin'
      have hle := hs'.2 j j1 j3
      simp only [he, he', dif_pos]
      have e1 : μ i = _ := i3
      omega
    | _ => exact q
  exact key _ i a w rfl hG h
theorem then_norm {K : Act → World → Prop} {Q : Exit → Act → World → Prop} {a : Act} {w : World} (h : K a w) : Exit.then K Q .normal a w := h
theorem then_exit {K : Act → World → Prop} {Q : Exit → Act → World → Prop} {a : Act} {w : World} {i : Nat} (h : Q (.exit i) a w) : Exit.then K Q (.exit i) a w := h
theorem blk_norm {Q : Exit → Act → World → Prop} {a : Act} {w : World} {i : Nat} (h : Q .normal a w) : Exit.inBlock i Q .normal a w := h
theorem blk_ret {Q : Exit → Act → World → Prop} {a : Act} {w : World} {i : Nat} (h : Q .ret a w) : Exit.inBlock i Q .ret a w := h
theorem blk_exit {Q : Exit → Act → World → Prop} {a : Act} {w : World} {i : Nat} (h : Q .normal a w) : Exit.inBlock i Q (.exit i) a w := by
  simp only [Exit.inBlock, if_true]
  exact h
theorem blk_past {Q : Exit → Act → World → Prop} {a : Act} {w : World} {i j : Nat} (hn : j ≠ i) (h : Q (.exit j) a w) : Exit.inBlock i Q (.exit j) a w := by
  simp only [Exit.inBlock, if_neg hn]
  exact h
theorem go_end {P : Program} {W : Bs} {n : Nat} {id : Nat} {ops : Array Oper} {b : Bool} {Q : Exit → Act → World → Prop} {σ : SS} {a : Act} {w : World} (h : Rp W n σ a w) (hm : P.follows .mixedOrders = true) (xs : List OE) (hok : orderOk ops xs = true)
    (hstep : AllSt P W n ops xs σ 0 ops.toList xs) (s : List (Nat × SV)) (m : List (Nat × List Value)) (h1 : AllS (run (fun _ => true) 0 xs σ).s s) (h2 : AllM (run (fun _ => true) 0 xs σ).m m) (h3 : aimed m s = true) (hk : ∀ a' w', Rp W n (SS.mk' s m) a' w' → Q .normal a' w') : (Code.region id ops b).wp P Q a w :=
  region_any h hm xs hok hstep (fun a' w' h' => hk a' w' (h'.keep s m h1 h2 h3))
theorem go_endQ {P : Program} {W : Bs} {n : Nat} {id : Nat} {ops : Array Oper} {b : Bool} {Q : Exit → Act → World → Prop} {σ : SS} {a : Act} {w : World} (h : Rp W n σ a w) (hm : P.follows .mixedOrders = true) (xs : List OE) (hok : orderOk ops xs = true)
    (hstep : AllSt P W n ops xs σ 0 ops.toList xs) (s : List (Nat × SV)) (m : List (Nat × List Value)) (q : List (Nat × Pd)) (h1 : AllS (run (fun _ => true) 0 xs σ).s s) (h2 : AllM (run (fun _ => true) 0 xs σ).m m) (hq : AllQ (run (fun _ => true) 0 xs σ).q q) (h3 : aimQ m q s = true) (hk : ∀ a' w', Rp W n (SS.mkQ s m q) a' w' → Q .normal a' w') : (Code.region id ops b).wp P Q a w :=
  region_any h hm xs hok hstep (fun a' w' h' => hk a' w' (h'.keepQ s m q h1 h2 hq h3))
theorem skip_then {P : Program} {K : Act → World → Prop} {Q : Exit → Act → World → Prop} {a : Act} {w : World} (h : K a w) : Code.skip.wp P (Exit.then K Q) a w := wp_skip h
theorem go_cond {P : Program} {W : Bs} {n : Nat} {c : Operand} {x y : Code} {Q : Exit → Act → World → Prop} {σ : SS} {a : Act} {w : World} (h : Rp W n σ a w) (t : Bool) (hc : σ.ev n c = some (.val (.bool t))) (ht : t = true → x.wp P Q a w) (hf : t = false → y.wp P Q a w) : (Code.cond c x y).wp P Q a w := by
  obtain ⟨β, hr⟩ := h
  refine wp_cond_split (t := t) ?_ ht hf
  rw [hr.eval hc]
  rfl
/-- An answer that lies in a variable. -/
theorem ret_row {P : Program} {W : Bs} {n : Nat} {σ : SS} {a : Act} {w : World} {fn : Func} {R : Ending → World → Prop} (h : Rp W n σ a w) (d : Nat) (ty : TypeId) (hres : fn.results = #[.cell d ty]) (hd : d < n) (x : Nat) (hs : σ.s d = some (.ptr x 0)) (cs : List Value) (hx : σ.m x = some cs) (td : TypeDesc) (hu : P.underlying ty = some td) (hr : td.isRow = true) (hi : (P.info? ty).map (·.size) = some cs.length) (hR : R (.returned (.agg cs.toArray)) w) (hD : W.D = [] := by first | rfl | assumption) : bodyPost P fn R .ret a w := by
  obtain ⟨β, hp⟩ := h
  refine ⟨hp.df.trans hD, .agg cs.toArray, ?_, hR⟩
  have e : a.tmps[d]? = some (.pointer (some ⟨(β x).b, 0, none⟩)) := by
    rw [hp.sl d _ hd hs]
    rfl
  have hl := run_loadVar_mid (P := P) w (β x).b 0 ty cs td (hp.va x cs hx).2.2.1 hu hr hi
  simp [results, hres, e, asAddr, hl]
theorem ret_cell {P : Program} {W : Bs} {n : Nat} {σ : SS} {a : Act} {w : World} {fn : Func} {R : Ending → World → Prop} (h : Rp W n σ a w) (d : Nat) (ty : TypeId) (hres : fn.results = #[.cell d ty]) (hd : d < n) (x : Nat) (hs : σ.s d = some (.ptr x 0)) (v : Value) (hx : σ.m x = some [v]) (td : TypeDesc) (hu : P.underlying ty = some td) (hr : td.isRow = false) (hR : R (.returned v) w) (hD : W.D = [] := by first | rfl | assumption) : bodyPost P fn R .ret a w := by
  obtain ⟨β, hp⟩ := h
  refine ⟨hp.df.trans hD, v, ?_, hR⟩
  have e : a.tmps[d]? = some (.pointer (some ⟨(β x).b, 0, none⟩)) := by
    rw [hp.sl d _ hd hs]
    rfl
  have hc : w.cell? ⟨(β x).b, 0, none⟩ = some v := (hp.va x [v] hx).2.2.1 0 v rfl
  have hagg : (isAgg ty).run P w = .ok false w := by
    unfold isAgg
    rw [Sem.run_bind, run_underlying hu w]
    cases td <;> simp_all
  simp [results, hres, e, asAddr, loadVar, hagg, hc]
/-- An answer that lies in a slot. -/
theorem ret_slot {P : Program} {W : Bs} {n : Nat} {σ : SS} {a : Act} {w : World} {fn : Func} {R : Ending → World → Prop} (h : Rp W n σ a w) (d : Nat) (hres : fn.results = #[.tmp d]) (hd : d < n) (v : Value) (hs : σ.s d = some (.val v)) (hR : R (.returned v) w) (hD : W.D = [] := by first | rfl | assumption) : bodyPost P fn R .ret a w := by
  obtain ⟨β, hp⟩ := h
  refine ⟨hp.df.trans hD, v, ?_, hR⟩
  have e : a.tmps[d]? = some v := by
    rw [hp.sl d _ hd hs]
    rfl
  simp [results, hres, e]
/-- What one of a function's answers is. -/
def Ans (P : Program) (n : Nat) (σ : SS) (r : ResultVar) (v : Value) : Prop := ∀ (W : Bs) (β : Nat → Loc) (a : Act) (w : World), Rep W n β σ a w → match r with
  | .tmp t => a.tmps[t]? = some v
  | .cell d t => ∃ p, a.tmps[d]? = some (.pointer (some p)) ∧ (loadVar t p).run P w = .ok v w
theorem ans_tmp {P : Program} {n : Nat} {σ : SS} (d : Nat) (hd : d < n) {v : Value} (hs : σ.s d = some (.val v)) : Ans P n σ (.tmp d) v := by
  intro W β a w hp
  exact hp.sl d _ hd hs
theorem ans_row {P : Program} {n : Nat} {σ : SS} (d : Nat) (hd : d < n) (ty : TypeId) {x : Nat} (hs : σ.s d = some (.ptr x 0)) {cs : List Value} (hx : σ.m x = some cs) {td : TypeDesc} (hu : P.underlying ty = some td) (hr : td.isRow = true) (hi : (P.info? ty).map (·.size) = some cs.length) : Ans P n σ (.cell d ty) (.agg cs.toArray) := by
  intro W β a w hp
  exact ⟨_, hp.sl d _ hd hs, run_loadVar_mid (P := P) w (β x).b 0 ty cs td (hp.va x cs hx).2.2.1 hu hr hi⟩
theorem ans_cell {P : Program} {n : Nat} {σ : SS} (d : Nat) (hd : d < n) (ty : TypeId) {x : Nat} (hs : σ.s d = some (.ptr x 0)) {v : Value} {cs : List Value} (hx : σ.m x = some (v :: cs)) {td : TypeDesc} (hu : P.underlying ty = some td) (hr : td.isRow = false) : Ans P n σ (.cell d ty) v := by
  intro W β a w hp
  refine ⟨_, hp.sl d _ hd hs, ?_⟩
  have hc : w.cell? ⟨(β x).b, 0, none⟩ = some v := (hp.va x (v :: cs) hx).2.2.1 0 v rfl
  have hagg : (isAgg ty).run P w = .ok false w := by
    unfold isAgg
    rw [Sem.run_bind, run_underlying hu w]
    cases td <;> simp_all
  simp [loadVar, hagg, hc]
/-- Two answers. -/
theorem ret_two {P : Program} {W : Bs} {n : Nat} {σ : SS} {a : Act} {w : World} {fn : Func} {R : Ending → World → Prop} (h : Rp W n σ a w) (r1 r2 : ResultVar) (hres : fn.results = #[r1, r2]) {v1 v2 : Value} (h1 : Ans P n σ r1 v1) (h2 : Ans P n σ r2 v2) (hR : R (.returned (.tuple [v1, v2].toArray)) w) (hD : W.D = [] := by first | rfl | assumption) : bodyPost P fn R .ret a w := by
  obtain ⟨β, hp⟩ := h
  refine ⟨hp.df.trans hD, _, ?_, hR⟩
  have e1 := h1 W β a w hp
  have e2 := h2 W β a w hp
  cases r1 with
  | tmp t1 => cases r2 with
    | tmp t2 =>
      simp only at e1 e2
      simp [results, hres, e1, e2]
    | cell d2 y2 =>
      simp only at e1
      obtain ⟨p2, f2, g2⟩ := e2
      simp [results, hres, e1, f2, g2, asAddr]
  | cell d1 y1 =>
    obtain ⟨p1, f1, g1⟩ := e1
    cases r2 with
    | tmp t2 =>
      simp only at e2
      simp [results, hres, f1, g1, e2, asAddr]
    | cell d2 y2 =>
      obtain ⟨p2, f2, g2⟩ := e2
      simp [results, hres, f1, g1, f2, g2, asAddr]
theorem callFunc_enter {P : Program} {F : Nat} {fn : Func} (hf : P.funcs[F]? = some fn) (hn : (fn.name == "runtime.NumGoroutine") = false) (hb : fn.body.isNone = false) (vs : Array Value) (w : World) : (callFunc F vs).run P w = .ok (.enter F vs) w := by
  have h1 : fn.name ≠ "runtime.NumGoroutine" := by simpa using hn
  have h2 : fn.body ≠ none := by
    intro e
    rw [e] at hb
    cases hb
  simp [callFunc, hf, h1, h2]


section
variable {P : Program} {W : Bs} {n : Nat} {ops : Array Oper} {i : Nat} {o : Oper} {L : Nat → Bool} {xs : List OE} {σ : SS}

theorem Up.isThere (u : Up ops i o L) {y : Nat} {cs : List Value} (h : lookM (Proofs.Ytjgpopjpmfkfmaa.deps o) i 0 ops.toList xs y (some (σ.m y)) = some (some cs)) : ((run L 0 xs σ).m y).isSome = true := by
  rw [u.m h]
  rfl
theorem Up.list (u : Up ops i o L) : ∀ (l : List Operand) (vs : List Value), l.map (lookO n ops i o xs σ) = vs.map (fun v => some (.val v)) → l.map ((run L 0 xs σ).ev n) = vs.map (fun v => some (SV.val v))
  | [], [], _ => rfl
  | [], v :: vs, h => by simp at h
  | x :: l, [], h => by simp at h
  | x :: l, v :: vs, h => by
    simp only [List.map_cons, List.cons.injEq] at h ⊢
    exact ⟨u.ev h.1, u.list l vs h.2⟩
/-- The operation is wanted. -/
def Gd (ops : Array Oper) (n : Nat) (o : Oper) (τ : SS) : Prop := ∀ j b, o.guard = some (j, b) → τ.yes ops n j = some b
theorem gd0 {τ : SS} (h : o.guard = none) : Gd ops n o τ := fun j b e => by rw [h] at e; cases e
theorem gd1 (u : Up ops i o L) (j : Nat) (b : Bool) (h : o.guard = some (j, b)) (d : Nat) (hd : (ops[j]?).bind (·.dst) = some d) (hn : d < n) (hx : lookO n ops i o xs σ (.tmp d) = some (.val (.bool b))) : Gd ops n o (run L 0 xs σ) := by
  intro j' b' e
  rw [h] at e
  cases e
  have := u.ev hx
  simp only [SS.ev, hn, if_true] at this
  simp only [SS.yes, hd, hn, if_true, this]
theorem Step.gd {τ τ' : SS} (hg : Gd ops n o τ) (h : Step P W n o τ τ') : GStep P W n ops o τ τ' := by
  cases e : o.guard with
  | none => exact h.g e
  | some q => exact h.yes q.1 q.2 (by rw [e]) (hg q.1 q.2 (by rw [e]))
/-- The operation isn't wanted. -/
theorem u_no (u : Up ops i o L) (j : Nat) (b : Bool) (h : o.guard = some (j, b)) (d : Nat) (hd : (ops[j]?).bind (·.dst) = some d) (hn : d < n) (hx : lookO n ops i o xs σ (.tmp d) = some (.val (.bool (!b)))) (dd : Nat) (hdd : o.dst = some dd) : GStep P W n ops o (run L 0 xs σ) ((eS dd (.val undef)).app (run L 0 xs σ)) := by
  have hy : (run L 0 xs σ).yes ops n j = some (!b) := by
    have := u.ev hx
    simp only [SS.ev, hn, if_true] at this
    simp only [SS.yes, hd, hn, if_true, this]
  have := Step.no (P := P) (W := W) j b h hy
  rw [hdd] at this
  exact this
/-- An operation that hangs on one that wasn't wanted. -/
theorem u_noU (u : Up ops i o L) (j : Nat) (b : Bool) (h : o.guard = some (j, b)) (d : Nat) (hd : (ops[j]?).bind (·.dst) = some d) (hn : d < n) (hx : lookO n ops i o xs σ (.tmp d) = some (.val undef)) (dd : Nat) (hdd : o.dst = some dd) : GStep P W n ops o (run L 0 xs σ) ((eS dd (.val undef)).app (run L 0 xs σ)) := by
  intro a w Q hr
  obtain ⟨β, hr⟩ := hr
  have e : a.tmps[d]? = some undef := by
    have := u.ev hx
    simp only [SS.ev, hn, if_true] at this
    exact hr.sl d _ hn this
  have hw : Region.wanted o (yielded ops a.tmps) = false := by
    simp [Region.wanted, h, yielded, hd, e, undef]
  rw [hw]
  simp only [Bool.false_eq_true, if_false]
  rw [hdd]
  exact ⟨β, hr.put (some dd) (.val undef) val_hp val_hu⟩
theorem u_move (u : Up ops i o L) (hg : Gd ops n o (run L 0 xs σ)) (dd : Nat) (hdd : o.dst = some dd) (x : Operand) (ho : o.op = .move x ∨ o.op = .assign x) {v : Value} (hx : lookO n ops i o xs σ x = some (.val v)) : GStep P W n ops o (run L 0 xs σ) ((eS dd (.val v)).app (run L 0 xs σ)) := by
  have e : (eS dd (.val v)).app (run L 0 xs σ) = (run L 0 xs σ).set o.dst (.val v) := by rw [hdd]; rfl
  rw [e]
  refine Step.gd hg (v_val _ val_hp val_hu fun β a w hr => ?_)
  unfold execOp
  rcases ho with ho | ho <;> simp only [ho, hr.eval (u.ev hx), SV.at, Sem.run_pure]
theorem u_pick (u : Up ops i o L) (hg : Gd ops n o (run L 0 xs σ)) (dd : Nat) (hdd : o.dst = some dd) (c x y : Operand) (ho : o.op = .pick c x y) {t : Bool} (hc : lookO n ops i o xs σ c = some (.val (.bool t))) {vx vy : Value} (hx : lookO n ops i o xs σ x = some (.val vx)) (hy : lookO n ops i o xs σ y = some (.val vy)) (v : Value) (hv : v = bif t then vx else vy) : GStep P W n ops o (run L 0 xs σ) ((eS dd (.val v)).app (run L 0 xs σ)) := by
  have e : (eS dd (.val v)).app (run L 0 xs σ) = (run L 0 xs σ).set o.dst (.val v) := by rw [hdd]; rfl
  rw [e]
  refine Step.gd hg (v_val _ val_hp val_hu fun β a w hr => ?_)
  unfold execOp
  cases t <;> simp [ho, hr.eval (u.ev hc), hr.eval (u.ev hx), hr.eval (u.ev hy), SV.at, asBool, hv]
theorem u_not (u : Up ops i o L) (hg : Gd ops n o (run L 0 xs σ)) (dd : Nat) (hdd : o.dst = some dd) (ty : TypeId) (x : Operand) (ho : o.op = .unOp .not ty x) {t : Bool} (hx : lookO n ops i o xs σ x = some (.val (.bool t))) (s : Bool) (hs : s = !t) : GStep P W n ops o (run L 0 xs σ) ((eS dd (.val (.bool s))).app (run L 0 xs σ)) := by
  have e : (eS dd (.val (.bool s))).app (run L 0 xs σ) = (run L 0 xs σ).set o.dst (.val (.bool s)) := by rw [hdd]; rfl
  rw [e, hs]
  refine Step.gd hg (v_val _ val_hp val_hu fun β a w hr => ?_)
  unfold execOp
  simp [ho, hr.eval (u.ev hx), SV.at, Op.unary]
theorem u_part (u : Up ops i o L) (hg : Gd ops n o (run L 0 xs σ)) (dd : Nat) (hdd : o.dst = some dd) (x : Operand) (k : Nat) (ho : o.op = .extract x k) {vs : List Value} (hx : lookO n ops i o xs σ x = some (.val (.tuple vs.toArray))) (v : Value) (hv : vs[k]? = some v) : GStep P W n ops o (run L 0 xs σ) ((eS dd (.val v)).app (run L 0 xs σ)) := by
  have e : (eS dd (.val v)).app (run L 0 xs σ) = (run L 0 xs σ).set o.dst (.val v) := by rw [hdd]; rfl
  rw [e]
  refine Step.gd hg (v_val _ val_hp val_hu fun β a w hr => ?_)
  unfold execOp
  simp [ho, hr.eval (u.ev hx), SV.at, Instr.extract, hv]
/-- Two numbers, or two truths. -/
theorem u_bin (u : Up ops i o L) (hg : Gd ops n o (run L 0 xs σ)) (dd : Nat) (hdd : o.dst = some dd) (q : BinOp) (ty t2 : TypeId) (x y : Operand) (ho : o.op = .binOp q ty x y t2) {vx vy : Value} (hx : lookO n ops i o xs σ x = some (.val vx)) (hy : lookO n ops i o xs σ y = some (.val vy)) (h0 : ∀ w, (eqGuard q ty x y vx vy).run P w = .ok () w) (v : Value) (hv : ∀ w, (binOp q ty vx vy).run P w = .ok v w) : GStep P W n ops o (run L 0 xs σ) ((eS dd (.val v)).app (run L 0 xs σ)) := by
  have e : (eS dd (.val v)).app (run L 0 xs σ) = (run L 0 xs σ).set o.dst (.val v) := by rw [hdd]; rfl
  rw [e]
  refine Step.gd hg (v_val _ val_hp val_hu fun β a w hr => ?_)
  unfold execOp
  simp [ho, hr.eval (u.ev hx), hr.eval (u.ev hy), SV.at, h0, hv]
theorem eqg_int (q : BinOp) (ty : TypeId) (x y : Operand) (k k' : IntKind) (a b : Int) (w : World) : (eqGuard q ty x y (.int k a) (.int k' b)).run P w = .ok () w := by
  unfold eqGuard
  cases q <;> rfl
theorem eqg_bool (q : BinOp) (ty : TypeId) (x y : Operand) (a b : Bool) (w : World) : (eqGuard q ty x y (.bool a) (.bool b)).run P w = .ok () w := by
  unfold eqGuard
  cases q <;> rfl
theorem u_load (u : Up ops i o L) (hg : Gd ops n o (run L 0 xs σ)) (dd : Nat) (hdd : o.dst = some dd) (ty : TypeId) (x : Operand) (ho : o.op = .load ty x) {y off : Nat} (hx : lookO n ops i o xs σ x = some (.ptr y off)) {cs : List Value} (hm : lookM (deps o) i 0 ops.toList xs y (some (σ.m y)) = some (some cs)) {d : TypeDesc} (hu : P.underlying ty = some d) (hd : d.isRow = true) {k : Nat} (hi : (P.info? ty).map (·.size) = some k) (hk : off + k ≤ cs.length) (vs : List Value) (hv : vs = (cs.drop off).take k) :
    GStep P W n ops o (run L 0 xs σ) ((eS dd (.val (.agg vs.toArray))).app (run L 0 xs σ)) :=
  by
  have := (step_load (W := W) ty x ho y off (u.ev hx) cs (u.m hm) d hu hd k hi hk vs hv).gd (ops := ops) hg
  rw [hdd] at this
  exact this
theorem u_load1 (u : Up ops i o L) (hg : Gd ops n o (run L 0 xs σ)) (dd : Nat) (hdd : o.dst = some dd) (ty : TypeId) (x : Operand) (ho : o.op = .load ty x) {y off : Nat} (hx : lookO n ops i o xs σ x = some (.ptr y off)) {cs : List Value} (hm : lookM (deps o) i 0 ops.toList xs y (some (σ.m y)) = some (some cs)) {d : TypeDesc} (hu : P.underlying ty = some d) (hd : d.isRow = false) (v : Value) (hv : cs[off]? = some v) :
    GStep P W n ops o (run L 0 xs σ) ((eS dd (.val v)).app (run L 0 xs σ)) :=
  by
  have := (step_load1 (W := W) ty x ho y off (u.ev hx) cs (u.m hm) d hu hd v hv).gd (ops := ops) hg
  rw [hdd] at this
  exact this
theorem u_store (u : Up ops i o L) (hg : Gd ops n o (run L 0 xs σ)) (ty : TypeId) (x y : Operand) (ho : o.op = .store ty x y) (hd : o.dst = none) {z off : Nat} (hx : lookO n ops i o xs σ x = some (.ptr z off)) {vs : List Value} (hy : lookO n ops i o xs σ y = some (.val (.agg vs.toArray))) {cs : List Value} (hm : lookM (deps o) i 0 ops.toList xs z (some (σ.m z)) = some (some cs))
    (hi : (P.info? ty).map (·.size) = some vs.length) (hl : off + vs.length ≤ cs.length) (h1 : vs.all (·.oneCell') = true) (cs' : List Value) (hc : cs' = splice cs off vs) : GStep P W n ops o (run L 0 xs σ) ((eM z cs').app (run L 0 xs σ)) :=
  (step_store ty x y ho hd z off (u.ev hx) vs (u.ev hy) cs (u.m hm) hi hl h1 cs' hc).gd hg
theorem u_store1 (u : Up ops i o L) (hg : Gd ops n o (run L 0 xs σ)) (ty : TypeId) (x y : Operand) (ho : o.op = .store ty x y) (hd : o.dst = none) {z off : Nat} (hx : lookO n ops i o xs σ x = some (.ptr z off)) {v : Value} (hy : lookO n ops i o xs σ y = some (.val v)) {cs : List Value} (hm : lookM (deps o) i 0 ops.toList xs z (some (σ.m z)) = some (some cs))
    (hi : (P.info? ty).map (·.size) = some 1) (hl : off < cs.length) (h1 : v.oneCell' = true) (cs' : List Value) (hc : cs' = splice cs off [v]) : GStep P W n ops o (run L 0 xs σ) ((eM z cs').app (run L 0 xs σ)) :=
  (step_store1 ty x y ho hd z off (u.ev hx) v (u.ev hy) cs (u.m hm) hi hl h1 cs' hc).gd hg
theorem u_alloc (u : Up ops i o L) (hg : Gd ops n o (run L 0 xs σ)) (ty : TypeId) (ho : o.op = .alloc ty) (x : Nat) (hd : o.dst = some x) (hx : lookM (deps o) i 0 ops.toList xs x (some (σ.m x)) = some none) {v : Value} (hz : (P.info? ty).map (·.zero) = some (some v)) (cs : List Value) (hc : cs = v.cells.toList) :
    GStep P W n ops o (run L 0 xs σ) ((eN x cs).app (run L 0 xs σ)) :=
  (step_alloc ty ho x hd (u.m hx) v hz cs hc).gd hg
theorem u_box (u : Up ops i o L) (hg : Gd ops n o (run L 0 xs σ)) (ty : TypeId) (y : Operand) (ho : o.op = .box ty y) (x : Nat) (hd : o.dst = some x) (hx : lookM (deps o) i 0 ops.toList xs x (some (σ.m x)) = some none) {v : Value} (hy : lookO n ops i o xs σ y = some (.val v)) (cs : List Value) (hc : cs = v.cells.toList) :
    GStep P W n ops o (run L 0 xs σ) ((eN x cs).app (run L 0 xs σ)) :=
  (step_box ty y ho x hd (u.m hx) v (u.ev hy) cs hc).gd hg
theorem u_field (u : Up ops i o L) (hg : Gd ops n o (run L 0 xs σ)) (dd : Nat) (hdd : o.dst = some dd) (ty : TypeId) (x : Operand) (f : Nat) (ho : o.op = .fieldAddr ty x f) {y off : Nat} (hx : lookO n ops i o xs σ x = some (.ptr y off)) {cs : List Value} (hm : lookM (deps o) i 0 ops.toList xs y (some (σ.m y)) = some (some cs)) {fs : Array Field} (hu : P.underlying ty = some (.struct fs)) {fd : Field} (hf : fs[f]? = some fd) {k : Nat} (hk : (P.info? fd.type).map (·.size) = some (k + 1)) (off' : Nat) (ho' : off' = off + fd.offset) :
    GStep P W n ops o (run L 0 xs σ) ((eS dd (.ptr y off')).app (run L 0 xs σ)) :=
  by
  have := (step_field (W := W) ty x f ho y off (u.ev hx) (u.isThere hm) fs hu fd hf k hk off' ho').gd (ops := ops) hg
  rw [hdd] at this
  exact this
theorem u_call (u : Up ops i o L) (hg : Gd ops n o (run L 0 xs σ)) (dd : Nat) (hdd : o.dst = some dd) (F : Nat) (as : Array Operand) (ts : Array TypeId) (ho : o.op = .call { callee := .value (.func F), args := as, argTypes := ts }) (vs : List Value) (hx : as.toList.map (lookO n ops i o xs σ) = vs.map (fun v => some (.val v))) (hE : ∀ w : World, (callFunc F vs.toArray).run P w = .ok (.enter F vs.toArray) w)
    (v : Value) (hC : ∀ w, W.kp w → Calls P F vs.toArray w fun e w' => e = .returned v ∧ Below w.heap.size w w') : GStep P W n ops o (run L 0 xs σ) ((eS dd (.val v)).app (run L 0 xs σ)) := by
  have := (step_call (W := W) F as ts ho vs.toArray (u.list as.toList vs hx) hE v hC).gd (ops := ops) hg
  rw [hdd] at this
  exact this
theorem u_build (u : Up ops i o L) (hg : Gd ops n o (run L 0 xs σ)) (dd : Nat) (hdd : o.dst = some dd) (ty : TypeId) (ps : Array (Nat × Operand)) (ho : o.op = .build ty ps) (vs : List (Nat × Value)) (hp : ps.toList.map (fun q => (q.1, lookO n ops i o xs σ q.2)) = vs.map (fun q => (q.1, some (SV.val q.2)))) (cells : List Value) (hb : P.built ty vs = some cells.toArray) :
    GStep P W n ops o (run L 0 xs σ) ((eS dd (.val (.agg cells.toArray))).app (run L 0 xs σ)) := by
  have key : ∀ (l : List (Nat × Operand)) (vs : List (Nat × Value)), l.map (fun q => (q.1, lookO n ops i o xs σ q.2)) = vs.map (fun q => (q.1, some (SV.val q.2))) → l.map (fun q => (q.1, (run L 0 xs σ).ev n q.2)) = vs.map (fun q => (q.1, some (SV.val q.2))) := by
    intro l
    induction l with
    | nil => intro vs h; cases vs with
      | nil => rfl
      | cons v vs => simp at h
    | cons q l ih => intro vs h; cases vs with
      | nil => simp at h
      | cons v vs =>
        simp only [List.map_cons, List.cons.injEq, Prod.mk.injEq] at h ⊢
        exact ⟨⟨h.1.1, u.ev h.1.2⟩, ih vs h.2⟩
  have := (step_build (W := W) ty ps ho vs (key ps.toList vs hp) cells hb).gd (ops := ops) hg
  rw [hdd] at this
  exact this
/-- Two rows are held against each other. -/
theorem u_eql (u : Up ops i o L) (hg : Gd ops n o (run L 0 xs σ)) (dd : Nat) (hdd : o.dst = some dd) (ty t2 : TypeId) (x y : Operand) (ho : o.op = .binOp .eql ty x y t2) {as bs : Array Value} (hx : lookO n ops i o xs σ x = some (.val (.agg as))) (hy : lookO n ops i o xs σ y = some (.val (.agg bs))) (hq : P.eqGuardType P.depth ty = false) (t : Bool) (he : ∀ w, (Op.equalIn 10000 ty (.agg as) (.agg bs)).run P w = .ok t w) :
    GStep P W n ops o (run L 0 xs σ) ((eS dd (.val (.bool t))).app (run L 0 xs σ)) := by
  have e : (eS dd (.val (.bool t))).app (run L 0 xs σ) = (run L 0 xs σ).set o.dst (.val (.bool t)) := by rw [hdd]; rfl
  rw [e]
  refine Step.gd hg (v_val _ val_hp val_hu fun β a w hr => ?_)
  unfold execOp
  simp only [ho, hr.eval (u.ev hx), hr.eval (u.ev hy), SV.at, Sem.run_bind, run_eqGuard_agg w .eql ty x y as bs hq, Result.andThen_ok, run_eql_struct, he, Sem.run_pure]
theorem u_neq (u : Up ops i o L) (hg : Gd ops n o (run L 0 xs σ)) (dd : Nat) (hdd : o.dst = some dd) (ty t2 : TypeId) (x y : Operand) (ho : o.op = .binOp .neq ty x y t2) {as bs : Array Value} (hx : lookO n ops i o xs σ x = some (.val (.agg as))) (hy : lookO n ops i o xs σ y = some (.val (.agg bs))) (hq : P.eqGuardType P.depth ty = false) (t : Bool) (he : ∀ w, (Op.equalIn 10000 ty (.agg as) (.agg bs)).run P w = .ok t w) :
    GStep P W n ops o (run L 0 xs σ) ((eS dd (.val (.bool (!t)))).app (run L 0 xs σ)) := by
  have e : (eS dd (.val (.bool !t))).app (run L 0 xs σ) = (run L 0 xs σ).set o.dst (.val (.bool !t)) := by rw [hdd]; rfl
  rw [e]
  refine Step.gd hg (v_val _ val_hp val_hu fun β a w hr => ?_)
  unfold execOp
  simp only [ho, hr.eval (u.ev hx), hr.eval (u.ev hy), SV.at, Sem.run_bind, run_eqGuard_agg w .neq ty x y as bs hq, Result.andThen_ok, run_neq_struct, he, Sem.run_pure]
end


theorem i_lss {P : Program} (ty : TypeId) (k : IntKind) (a b : Int) (w : World) : (binOp .lss ty (.int k a) (.int k b)).run P w = .ok (.bool (decide (a < b))) w := by
  simp [binOp, Op.intCmp]
theorem i_leq {P : Program} (ty : TypeId) (k : IntKind) (a b : Int) (w : World) : (binOp .leq ty (.int k a) (.int k b)).run P w = .ok (.bool (decide (a ≤ b))) w := by
  simp [binOp, Op.intCmp]
theorem i_gtr {P : Program} (ty : TypeId) (k : IntKind) (a b : Int) (w : World) : (binOp .gtr ty (.int k a) (.int k b)).run P w = .ok (.bool (decide (b < a))) w := by
  simp [binOp, Op.intCmp]
theorem i_geq {P : Program} (ty : TypeId) (k : IntKind) (a b : Int) (w : World) : (binOp .geq ty (.int k a) (.int k b)).run P w = .ok (.bool (decide (b ≤ a))) w := by
  simp [binOp, Op.intCmp]
theorem i_eql {P : Program} (ty : TypeId) (k : IntKind) (a b : Int) (w : World) : (binOp .eql ty (.int k a) (.int k b)).run P w = .ok (.bool (decide (a = b))) w := by
  simp [binOp, Op.intCmp]
  by_cases h : a = b <;> simp [h]
theorem i_neq {P : Program} (ty : TypeId) (k : IntKind) (a b : Int) (w : World) : (binOp .neq ty (.int k a) (.int k b)).run P w = .ok (.bool (decide (a ≠ b))) w := by
  simp [binOp, Op.intCmp]
  by_cases h : a = b <;> simp [h]
/-- A test whose answer is known. -/
theorem yes_of {P : Program} {q : BinOp} {ty : TypeId} {x y : Value} {p : Prop} [Decidable p] (h : ∀ w, (binOp q ty x y).run P w = .ok (.bool (decide p)) w) (hp : p) : ∀ w, (binOp q ty x y).run P w = .ok (.bool true) w := fun w => by rw [h w, decide_eq_true hp]
theorem no_of {P : Program} {q : BinOp} {ty : TypeId} {x y : Value} {p : Prop} [Decidable p] (h : ∀ w, (binOp q ty x y).run P w = .ok (.bool (decide p)) w) (hp : ¬ p) : ∀ w, (binOp q ty x y).run P w = .ok (.bool false) w := fun w => by rw [h w, decide_eq_false hp]
theorem wrap_in (c : Int) (h : -9223372036854775808 ≤ c ∧ c ≤ 9223372036854775807) : IntKind.i64.wrap c = c := by
  simp only [IntKind.wrap, IntKind.bits, IntKind.signed]
  simp
  omega
theorem i_add {P : Program} (ty : TypeId) (a b c : Int) (hc : c = a + b) (h : -9223372036854775808 ≤ c ∧ c ≤ 9223372036854775807) (w : World) : (binOp .add ty (.int .i64 a) (.int .i64 b)).run P w = .ok (.int .i64 c) w := by
  have e : IntKind.i64.wrap (a + b) = c := by rw [← hc]; exact wrap_in c h
  simp [binOp, Op.intArith, e]
theorem i_sub {P : Program} (ty : TypeId) (a b c : Int) (hc : c = a - b) (h : -9223372036854775808 ≤ c ∧ c ≤ 9223372036854775807) (w : World) : (binOp .sub ty (.int .i64 a) (.int .i64 b)).run P w = .ok (.int .i64 c) w := by
  have e : IntKind.i64.wrap (a - b) = c := by rw [← hc]; exact wrap_in c h
  simp [binOp, Op.intArith, e]
theorem t_eql {P : Program} (ty : TypeId) (hu : P.underlying ty = some .bool) (a b : Bool) (w : World) : (binOp .eql ty (.bool a) (.bool b)).run P w = .ok (.bool (decide (a = b))) w := by
  have h := run_equalIn_bool' (P := P) w 9999 ty a b hu
  simp [binOp, Op.equal, Op.maxDepth, h]
  cases a <;> cases b <;> rfl


section
variable {P : Program} {W : Bs} {n : Nat} {ops : Array Oper} {i : Nat} {o : Oper} {L : Nat → Bool} {xs : List OE} {σ : SS}

/-- Any operation that only yields. -/
theorem u_any (u : Up ops i o L) (hg : Gd ops n o (run L 0 xs σ)) (dd : Nat) (hdd : o.dst = some dd) (s : SV) (hs : ∀ x c, s.p = some (x, c) → ∃ cs, lookM (deps o) i 0 ops.toList xs x (some (σ.m x)) = some (some cs)) (h : ∀ (β : Nat → Loc) (a : Act) (w : World), Rep W n β (run L 0 xs σ) a w → (execOp a.eval o).run P w = .ok (.value (s.at β)) w) (hu : s.u = none := by rfl) : GStep P W n ops o (run L 0 xs σ) ((eS dd s).app (run L 0 xs σ)) := by
  have e : (eS dd s).app (run L 0 xs σ) = (run L 0 xs σ).set o.dst s := by rw [hdd]; rfl
  rw [e]
  refine Step.gd hg (v_val s (fun x c hp => ?_) (fun x g e => by rw [hu] at e; cases e) h)
  obtain ⟨cs, hc⟩ := hs x c hp
  exact u.isThere hc
/-- A copy of whatever lies in a slot. -/
theorem u_copy (u : Up ops i o L) (hg : Gd ops n o (run L 0 xs σ)) (dd : Nat) (hdd : o.dst = some dd) (x : Operand) (ho : o.op = .move x ∨ o.op = .assign x) {s : SV} (hx : lookO n ops i o xs σ x = some s) (hs : ∀ x c, s.p = some (x, c) → ∃ cs, lookM (deps o) i 0 ops.toList xs x (some (σ.m x)) = some (some cs)) (hu : s.u = none := by rfl) : GStep P W n ops o (run L 0 xs σ) ((eS dd s).app (run L 0 xs σ)) := by
  refine u_any u hg dd hdd s hs (fun β a w hr => ?_) hu
  unfold execOp
  rcases ho with ho | ho <;> simp only [ho, hr.eval (u.ev hx), Sem.run_pure]
/-- A whole array's slice: 'x[:]'. -/
theorem u_slice (u : Up ops i o L) (hg : Gd ops n o (run L 0 xs σ)) (dd : Nat) (hdd : o.dst = some dd) (ty : TypeId) (x : Operand) (ho : o.op = .slice ty x none none none) {y off : Nat} (hx : lookO n ops i o xs σ x = some (.ptr y off)) {cs : List Value} (hm : lookM (deps o) i 0 ops.toList xs y (some (σ.m y)) = some (some cs)) {k : Nat} {e : TypeId} (hu : P.underlying ty = some (.array k e)) {z : Nat} (hz : (P.info? e).map (·.size) = some z) : GStep P W n ops o (run L 0 xs σ) ((eS dd (.sli y off k k)).app (run L 0 xs σ)) := by
  refine u_any u hg dd hdd _ (fun x c hp => by cases hp; exact ⟨cs, hm⟩) fun β a w hr => ?_
  cases hq : P.info? e with
  | none => simp [hq] at hz
  | some t =>
    unfold execOp
    simp [ho, hr.eval (u.ev hx), SV.at, Instr.sliceAt, run_underlying hu, Instr.sureAddr, Instr.sliceBounds, sizeOf, typeInfo, hq, Addr.add_mid]
/-- A call, whatever it is handed: what it answers, and the state behind it. -/
theorem u_callG (u : Up ops i o L) (hg : Gd ops n o (run L 0 xs σ)) (F : Nat) (as : Array Operand) (ts : Array TypeId) (ho : o.op = .call { callee := .value (.func F), args := as, argTypes := ts }) (ss : List SV) (hx : as.toList.map (lookO n ops i o xs σ) = ss.map some) (hE : ∀ (vs : Array Value) (w : World), (callFunc F vs).run P w = .ok (.enter F vs) w) (x : OE)
    (hC : ∀ (β : Nat → Loc) (a : Act) (w : World), Rep W n β (run L 0 xs σ) a w → Calls P F (ss.map (SV.at β)).toArray w fun e w' => ∃ r, e = .returned r ∧ ∃ β', Rep W n β' (x.app (run L 0 xs σ)) (a.put o.dst r) w') : GStep P W n ops o (run L 0 xs σ) (x.app (run L 0 xs σ)) := by
  refine Step.gd hg fun β a w Q hr => ?_
  have hf : a.eval (.func F) = .func (.func F) #[] #[] := rfl
  have key : ∀ (l : List Operand) (ss : List SV), l.map (lookO n ops i o xs σ) = ss.map some → l.map a.eval = ss.map (SV.at β) := by
    intro l
    induction l with
    | nil => intro ss h; cases ss with
      | nil => rfl
      | cons v vs => simp at h
    | cons x l ih => intro ss h; cases ss with
      | nil => simp at h
      | cons v vs =>
        simp only [List.map_cons, List.cons.injEq] at h ⊢
        exact ⟨hr.eval (u.ev h.1), ih vs h.2⟩
  have hxs : as.map a.eval = (ss.map (SV.at β)).toArray := Array.toList_inj.1 (by rw [Array.toList_map]; exact key as.toList ss hx)
  unfold Oper.wp execOp
  simp only [ho, resolve, invoke, hf, Deferred.ofValue, hxs, Sem.run_bind, Sem.run_pure, Result.andThen_ok]
  rw [show (#[] ++ (ss.map (SV.at β)).toArray ++ #[] : Array Value) = (ss.map (SV.at β)).toArray by simp, hE, Oper.upon_enter]
  refine Calls.mono (hC β a w hr) ?_
  rintro e w' ⟨r, rfl, h⟩
  exact h
/-- A call that is handed addresses, answers a plain value and only makes memory. -/
theorem u_callR (u : Up ops i o L) (hg : Gd ops n o (run L 0 xs σ)) (dd : Nat) (hdd : o.dst = some dd) (F : Nat) (as : Array Operand) (ts : Array TypeId) (ho : o.op = .call { callee := .value (.func F), args := as, argTypes := ts }) (ss : List SV) (hx : as.toList.map (lookO n ops i o xs σ) = ss.map some) (hE : ∀ (vs : Array Value) (w : World), (callFunc F vs).run P w = .ok (.enter F vs) w) (v : Value)
    (hC : ∀ (β : Nat → Loc) (a : Act) (w : World), Rep W n β (run L 0 xs σ) a w → Calls P F (ss.map (SV.at β)).toArray w fun e w' => e = .returned v ∧ Below w.heap.size w w') : GStep P W n ops o (run L 0 xs σ) ((eS dd (.val v)).app (run L 0 xs σ)) := by
  refine u_callG u hg F as ts ho ss hx hE _ fun β a w hr => Calls.mono (hC β a w hr) ?_
  rintro e w' ⟨rfl, hb⟩
  refine ⟨v, rfl, β, ?_⟩
  have := (hr.grow hb).put o.dst (.val v) val_hp val_hu
  rw [hdd] at this ⊢
  exact this
/-- A block that was made by a callee becomes a variable. -/
theorem Rep.found {β : Nat → Loc} {τ : SS} {a : Act} {w w' : World} (h : Rep W n β τ a w) (hb : Below w.heap.size w w') (x : Nat) (hx : τ.m x = none) (b : Nat) (h1 : w.heap.size ≤ b) (h2 : b < w'.heap.size) (cs : List Value) (h3 : w'.rangeAt b 0 cs) (h4 : w'.there b 0 cs.length) (k : Option (Nat × Nat)) :
    Rep W n (fun y => if y = x then (β x).to b else β y) ((τ.var x cs).set (some x) ⟨undef, some (x, 0), k, none⟩) (a.put (some x) ((⟨undef, some (x, 0), k, none⟩ : SV).at fun y => if y = x then (β x).to b else β y)) w' := by
  have g0 := h.other (β' := fun y => if y = x then (β x).to b else β y) (fun y hy => by
    have : y ≠ x := fun e => by rw [e, hx] at hy; cases hy
    simp [this]) (fun y hy => by
    by_cases e : y = x
    · subst e; simp
    · simp [e])
  have g := g0.grow hb
  have g2 : Rep W n (fun y => if y = x then (β x).to b else β y) (τ.var x cs) a w' := by
    have hqk : QOk W n (fun y => if y = x then (β x).to b else β y) (τ.var x cs) w' := g0.qk.to (fun _ => rfl) (fun y hy => by
      by_cases e : y = x
      · subst e; right; simp; exact h1
      · left; exact ⟨by simpa [SS.var, e] using hy, rfl⟩) (fun x hx => ⟨rfl, rfl⟩) g0.qk.qt hb.size (fun y hy c hF => by
      obtain ⟨p, hp⟩ := Option.isSome_iff_exists.1 hy
      exact hb.block c ((g0.qk.qa y p hp).2 c hF).2)
    refine ⟨g.df, g.sz, g.sl, g.bl, fun y cs' hy => ?_, fun y z hy hz hn => ?_, fun j u y o hj hu e => SS.isSome_var (g.pt j u y o hj hu e), hqk⟩
    · by_cases e : y = x
      · subst e
        simp only [SS.var, if_true, Option.some.injEq] at hy
        subst hy
        simp only [if_true]
        exact ⟨Or.inl (Nat.le_trans (Kp.size h.bl) h1), h2, h3, h4⟩
      · simp only [SS.var, if_neg e] at hy
        exact g.va y cs' hy
    · by_cases ey : y = x
      · subst ey
        have ez : z ≠ y := Ne.symm hn
        simp only [SS.var, if_neg ez] at hz
        obtain ⟨cz, hcz⟩ := Option.isSome_iff_exists.1 hz
        have := (h.va z cz hcz).2.1
        simp only [if_true, if_neg ez]
        omega
      · simp only [SS.var, if_neg ey] at hy
        by_cases ez : z = x
        · subst ez
          obtain ⟨cy, hcy⟩ := Option.isSome_iff_exists.1 hy
          have := (h.va y cy hcy).2.1
          simp only [if_true, if_neg ey]
          omega
        · simp only [SS.var, if_neg ez] at hz
          exact g.ne y z hy hz hn
  exact g2.put (some x) _ (fun y o e => by cases e; simp [SS.var]) (fun _ _ e => by cases e)
/-- A call that answers the address of a block, or a slice of one, that it made. -/
theorem u_callN (u : Up ops i o L) (hg : Gd ops n o (run L 0 xs σ)) (dd : Nat) (hdd : o.dst = some dd) (hn : lookM (deps o) i 0 ops.toList xs dd (some (σ.m dd)) = some none) (F : Nat) (as : Array Operand) (ts : Array TypeId) (ho : o.op = .call { callee := .value (.func F), args := as, argTypes := ts }) (ss : List SV) (hx : as.toList.map (lookO n ops i o xs σ) = ss.map some) (hE : ∀ (vs : Array Value) (w : World), (callFunc F vs).run P w = .ok (.enter F vs) w) (k : Option (Nat × Nat)) (cs : List Value)
    (hC : ∀ (β : Nat → Loc) (a : Act) (w : World), Rep W n β (run L 0 xs σ) a w → Calls P F (ss.map (SV.at β)).toArray w fun e w' => ∃ b, e = .returned ((⟨undef, some (0, 0), k, none⟩ : SV).at fun _ => ⟨b, undef, fun _ => false⟩) ∧ w.heap.size ≤ b ∧ b < w'.heap.size ∧ w'.rangeAt b 0 cs ∧ w'.there b 0 cs.length ∧ Below w.heap.size w w') : GStep P W n ops o (run L 0 xs σ) ((⟨some (dd, ⟨undef, some (dd, 0), k, none⟩), some (dd, cs), none, none, none⟩ : OE).app (run L 0 xs σ)) := by
  refine u_callG u hg F as ts ho ss hx hE _ fun β a w hr => Calls.mono (hC β a w hr) ?_
  rintro e w' ⟨b, rfl, h1, h2, h3, h4, hb⟩
  refine ⟨_, rfl, fun y => if y = dd then (β dd).to b else β y, ?_⟩
  · have g := hr.found hb dd (u.m hn) b h1 h2 cs h3 h4 k
    rw [hdd]
    have e : ((⟨undef, some (dd, 0), k, none⟩ : SV).at fun y => if y = dd then (β dd).to b else β y) = ((⟨undef, some (0, 0), k, none⟩ : SV).at fun _ => ⟨b, undef, fun _ => false⟩) := by
      cases k <;> simp [SV.at]
    rw [e] at g
    exact g
/-- A callee has written a variable. -/
theorem Rep.written {β : Nat → Loc} {τ : SS} {a : Act} {w w' : World} (h : Rep W n β τ a w) (x : Nat) {cs : List Value} (hx : τ.m x = some cs) (hw : w.grownBy w' (some (β x).b)) (cs' : List Value) (h3 : w'.rangeAt (β x).b 0 cs') (h4 : w'.there (β x).b 0 cs'.length) : Rep W n β (τ.var x cs') a w' := by
  obtain ⟨b1, b2, _, _⟩ := h.va x cs hx
  have hk : Kp W.X W.w w := h.bl
  have hbl : W.kp w' := ⟨hw.os.trans hk.os, hw.tape.trans hk.tape, hw.output.trans hk.output, Nat.le_trans hk.size hw.size, fun k hlt hx => (hw.block k (Nat.lt_of_lt_of_le hlt hk.size) (fun e => by
    have e := Option.some.inj e
    rcases b1 with b1 | b1
    · omega
    · rw [← e, hx] at b1; cases b1)).trans (hk.block k hlt hx)⟩
  have hqk : QOk W n β (τ.var x cs') w' := h.qk.to (fun _ => rfl) (fun y hy => Or.inl ⟨(by
    by_cases e : y = x
    · rw [e, hx]; rfl
    · simpa [SS.var, e] using hy), rfl⟩) (fun x hx => ⟨rfl, rfl⟩) h.qk.qt hw.size (fun y hy b hF => by
    obtain ⟨p, hp⟩ := Option.isSome_iff_exists.1 hy
    refine hw.block b ((h.qk.qa y p hp).2 b hF).2 (fun e => ?_)
    have := h.qk.qm y x hy (by rw [hx]; rfl)
    rw [← Option.some.inj e, hF] at this
    cases this)
  refine ⟨h.df, h.sz, h.sl, hbl, fun y cy hy => ?_, fun y z hy hz hn => ?_, fun j u y o hj hu e => SS.isSome_var (h.pt j u y o hj hu e), hqk⟩
  · by_cases e : y = x
    · subst e
      simp only [SS.var, if_true, Option.some.injEq] at hy
      subst hy
      exact ⟨b1, Nat.lt_of_lt_of_le b2 hw.size, h3, h4⟩
    · simp only [SS.var, if_neg e] at hy
      obtain ⟨c1, c2, c3, c4⟩ := h.va y cy hy
      have hne := h.ne y x (by simp [hy]) (by simp [hx]) e
      have hsame : w'.heap[(β y).b]? = w.heap[(β y).b]? := hw.block _ c2 (fun e => hne (Option.some.inj e))
      refine ⟨c1, Nat.lt_of_lt_of_le c2 hw.size, fun j v hv => ?_, fun j hj => ?_⟩
      · rw [World.cell?_of_block (w := w) hsame]; exact c3 j v hv
      · rw [World.cell?_of_block (w := w) hsame, World.frozen?_of_block (w := w) hsame]; exact c4 j hj
  · refine h.ne y z ?_ ?_ hn
    · by_cases e : y = x
      · rw [e, hx]; rfl
      · simpa [SS.var, e] using hy
    · by_cases e : z = x
      · rw [e, hx]; rfl
      · simpa [SS.var, e] using hz
/-- A call that writes one variable, and else only makes memory; what it answers goes into a slot. -/
theorem u_callM (u : Up ops i o L) (hg : Gd ops n o (run L 0 xs σ)) (dd : Nat) (hdd : o.dst = some dd) (F : Nat) (as : Array Operand) (ts : Array TypeId) (ho : o.op = .call { callee := .value (.func F), args := as, argTypes := ts }) (ss : List SV) (hx : as.toList.map (lookO n ops i o xs σ) = ss.map some) (hE : ∀ (vs : Array Value) (w : World), (callFunc F vs).run P w = .ok (.enter F vs) w) (x : Nat) {cs : List Value} (hm : lookM (deps o) i 0 ops.toList xs x (some (σ.m x)) = some (some cs)) (v : Value) (cs' : List Value)
    (hC : ∀ (β : Nat → Loc) (a : Act) (w : World), Rep W n β (run L 0 xs σ) a w → Calls P F (ss.map (SV.at β)).toArray w fun e w' => e = .returned v ∧ w.grownBy w' (some (β x).b) ∧ w'.rangeAt (β x).b 0 cs' ∧ w'.there (β x).b 0 cs'.length) : GStep P W n ops o (run L 0 xs σ) ((⟨some (dd, .val v), some (x, cs'), none, none, none⟩ : OE).app (run L 0 xs σ)) := by
  refine u_callG u hg F as ts ho ss hx hE _ fun β a w hr => Calls.mono (hC β a w hr) ?_
  rintro e w' ⟨rfl, hw, h3, h4⟩
  refine ⟨v, rfl, β, ?_⟩
  have := (hr.written x (u.m hm) hw cs' h3 h4).put o.dst (.val v) val_hp val_hu
  rw [hdd] at this ⊢
  exact this
/-- An element's address: of an own array .. -/
theorem u_at (u : Up ops i o L) (hg : Gd ops n o (run L 0 xs σ)) (dd : Nat) (hdd : o.dst = some dd) (ty : TypeId) (x ix : Operand) (ho : o.op = .indexAddr ty x ix) {y off : Nat} (hx : lookO n ops i o xs σ x = some (.ptr y off)) {cs : List Value} (hm : lookM (deps o) i 0 ops.toList xs y (some (σ.m y)) = some (some cs)) {kd : IntKind} {k : Nat} (hi : lookO n ops i o xs σ ix = some (.val (.int kd (k : Int)))) {len : Nat} {e : TypeId} (hu : P.underlying ty = some (.array len e)) {z : Nat} (hz : (P.info? e).map (·.size) = some z) (hk : k < len) (off' : Nat) (ho' : off' = off + k * z) : GStep P W n ops o (run L 0 xs σ) ((eS dd (.ptr y off')).app (run L 0 xs σ)) := by
  subst ho'
  refine u_any u hg dd hdd _ (fun x c hp => by cases hp; exact ⟨cs, hm⟩) fun β a w hr => ?_
  cases hq : P.info? e with
  | none => simp [hq] at hz
  | some t =>
    have hs : t.size = z := by simpa [hq] using hz
    unfold execOp
    simp [ho, hr.eval (u.ev hx), hr.eval (u.ev hi), SV.at, Instr.indexAt, asIntOf, run_underlying hu, Instr.sureAddr, sizeOf, typeInfo, hq, hs, Addr.add_mid, hk]
/-- .. and of a slice of one. -/
theorem u_atS (u : Up ops i o L) (hg : Gd ops n o (run L 0 xs σ)) (dd : Nat) (hdd : o.dst = some dd) (ty : TypeId) (x ix : Operand) (ho : o.op = .indexAddr ty x ix) {y off m c : Nat} (hx : lookO n ops i o xs σ x = some (.sli y off m c)) {cs : List Value} (hm : lookM (deps o) i 0 ops.toList xs y (some (σ.m y)) = some (some cs)) {kd : IntKind} {k : Nat} (hi : lookO n ops i o xs σ ix = some (.val (.int kd (k : Int)))) {e : TypeId} (hu : P.underlying ty = some (.slice e)) {z : Nat} (hz : (P.info? e).map (·.size) = some z) (hk : k < m) (off' : Nat) (ho' : off' = off + k * z) : GStep P W n ops o (run L 0 xs σ) ((eS dd (.ptr y off')).app (run L 0 xs σ)) := by
  subst ho'
  refine u_any u hg dd hdd _ (fun x c hp => by cases hp; exact ⟨cs, hm⟩) fun β a w hr => ?_
  cases hq : P.info? e with
  | none => simp [hq] at hz
  | some t =>
    have hs : t.size = z := by simpa [hq] using hz
    unfold execOp
    simp [ho, hr.eval (u.ev hx), hr.eval (u.ev hi), SV.at, Instr.indexAt, asIntOf, run_underlying hu, sizeOf, typeInfo, hq, hs, Addr.add_mid, hk]
/-- One cell of memory that was there at the function's beginning. -/
theorem u_loadX (u : Up ops i o L) (hg : Gd ops n o (run L 0 xs σ)) (dd : Nat) (hdd : o.dst = some dd) (ty : TypeId) (x : Operand) (ho : o.op = .load ty x) {p : Addr} (hx : lookO n ops i o xs σ x = some (.val (.pointer (some p)))) {d : TypeDesc} (hu : P.underlying ty = some d) (hd : d.isRow = false) (v : Value) (hv : W.w.cell? p = some v) (hX : W.X p.block = false) : GStep P W n ops o (run L 0 xs σ) ((eS dd (.val v)).app (run L 0 xs σ)) := by
  refine u_any u hg dd hdd _ (fun x c hp => by cases hp) fun β a w hr => ?_
  have hc : w.cell? p = some v := by
    rw [Kp.cell hr.bl (World.block_lt_of_cell? W.w p hv) hX]
    exact hv
  have hagg : (isAgg ty).run P w = .ok false w := by
    unfold isAgg
    rw [Sem.run_bind, run_underlying hu w]
    cases d <;> simp_all
  unfold execOp
  simp [ho, hr.eval (u.ev hx), SV.at, Instr.loadAt, Instr.sureAddr, loadVar, hagg, hc]
/-- A row of memory that was there at the function's beginning (a package variable's, say). -/
theorem u_loadXR (u : Up ops i o L) (hg : Gd ops n o (run L 0 xs σ)) (dd : Nat) (hdd : o.dst = some dd) (ty : TypeId) (x : Operand) (ho : o.op = .load ty x) {b off : Nat} (hx : lookO n ops i o xs σ x = some (.val (.pointer (some ⟨b, off, none⟩)))) {d : TypeDesc} (hu : P.underlying ty = some d) (hd : d.isRow = true) (vs : List Value) {k : Nat} (hi : (P.info? ty).map (·.size) = some k) (hk : vs.length = k) (hv : W.w.rangeAt b off vs) (hX : W.X b = false) : GStep P W n ops o (run L 0 xs σ) ((eS dd (.val (.agg vs.toArray))).app (run L 0 xs σ)) := by
  refine u_any u hg dd hdd _ (fun x c hp => by cases hp) fun β a w hr => ?_
  have hc : w.rangeAt b off vs := fun j v hj => by
    have h := hv j v hj
    rw [Kp.cell hr.bl (World.block_lt_of_cell? W.w _ h) hX]
    exact h
  unfold execOp
  simp only [ho, hr.eval (u.ev hx), SV.at, Instr.loadAt, Instr.sureAddr, Sem.run_bind, Sem.run_pure, Result.andThen_ok, run_loadVar_mid w b off ty vs d hc hu hd (by rw [hk]; exact hi)]
end
end Go.Proofs.Ytjgpopjpmfkfmaa
