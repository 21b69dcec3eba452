/- Walks by variables: a function's slots and its own variables as a state, whatever blocks they lie in; each operation a step of that state; a region that draws its order as one step. A region as one step of the state, whatever order it draws. Regions, drawn or not, by what each operation does; what is looked up is reckoned. Functions by their states: how one begins, goes on, parts, and ends. The operations of a region, what they look up being reckoned. Plain operations on numbers, as the steps of states want them. Steps of states for addresses: slices of own variables, calls that are handed addresses, that make memory, or write a variable. -/
import Derived.Below
import Derived.Deep.RegionHeld3
import Derived.Deep.MidRow
import Derived.Laws.Tables
import Derived.Deep.WholeRow
import Derived.Orders
import Derived.Laws.AppendOwn
import Derived.Laws.StructEq
import Derived.IntWalk
import Derived.Laws.IdiomCopy
namespace Go.Proofs.Ytpophfeommlajaa
set_option maxRecDepth 100000
open Go.RowKit

theorem lk {n m : Nat} (h : Nat.ble n m = true) : n ≤ m := Nat.le_of_ble_eq_true h

/-- What a slot holds: a value, or the address of a cell of a variable. -/
structure SV : Type where
  v : Value
  p : Option (Nat × Nat)
  k : Option (Nat × Nat)
  u : Option (Nat × (Value → Value))
abbrev SV.val (v : Value) : SV := ⟨v, none, none, none⟩
/-- Where a variable lies; the value that leads to a thing, and the blocks that the thing has for itself. -/
structure Loc : Type where
  b : Nat
  v : Value
  F : Nat → Bool
/-- Where the variables lie. -/
def SV.at (β : Nat → Loc) (s : SV) : Value := match s.u with
  | some (x, g) => g (β x).v
  | none => match s.p, s.k with
    | none, _ => s.v
    | some (x, o), none => .pointer (some ⟨(β x).b, o, none⟩)
    | some (x, o), some (n, c) => .slice (some ⟨(β x).b, o, none⟩) n c
abbrev Loc.to (l : Loc) (b : Nat) : Loc := ⟨b, l.v, l.F⟩
/-- A thing in memory: what is known of it hangs on its own blocks alone. -/
structure Pd : Type where
  p : Value → (Nat → Bool) → World → Prop
  keep : ∀ {v : Value} {F : Nat → Bool} {w w' : World}, w.heap.size ≤ w'.heap.size → (∀ b, F b = true → w'.heap[b]? = w.heap[b]?) → p v F w → p v F w'
/-- A state: what is known of the slots, and of the variables' cells (a variable bears the number of the slot that it was made for). -/
structure SS : Type where
  s : Nat → Option SV
  m : Nat → Option (List Value)
  q : Nat → Option Pd
def SS.ev (n : Nat) (σ : SS) : Operand → Option SV
  | .tmp j => if j < n then σ.s j else some (.val undef)
  | .const v => some (.val v)
  | .global g => some (.val (.pointer (some ⟨g, 0, none⟩)))
  | .func f => some (.val (.func (.func f) #[] #[]))
def SS.set (σ : SS) (d : Option Nat) (v : SV) : SS := match d with
  | some d => ⟨fun j => if j = d then some v else σ.s j, σ.m, σ.q⟩
  | none => σ
def SS.var (σ : SS) (x : Nat) (cs : List Value) : SS := ⟨σ.s, fun y => if y = x then some cs else σ.m y, σ.q⟩
/-- Worlds that part from the first one in new blocks alone, and in those that may be written. -/
structure Kp (X : Nat → Bool) (W w : World) : Prop where
  os : w.os = W.os
  tape : w.tape = W.tape
  output : w.output = W.output
  size : W.heap.size ≤ w.heap.size
  block : ∀ k, k < W.heap.size → X k = false → w.heap[k]? = W.heap[k]?
theorem Kp.refl (X : Nat → Bool) (W : World) : Kp X W W := ⟨rfl, rfl, rfl, Nat.le_refl _, fun _ _ _ => rfl⟩
theorem Kp.grow {X : Nat → Bool} {W w w' : World} (h : Kp X W w) (hb : Below w.heap.size w w') : Kp X W w' :=
  ⟨hb.os.trans h.os, hb.tape.trans h.tape, hb.output.trans h.output, Nat.le_trans h.size hb.size, fun k hk hx => (hb.block k (Nat.lt_of_lt_of_le hk h.size)).trans (h.block k hk hx)⟩
theorem Kp.setCell {X : Nat → Bool} {W w : World} (h : Kp X W w) {p : Addr} (hp : W.heap.size ≤ p.block ∨ X p.block = true) (u : Value) : Kp X W (w.setCell p u) :=
  ⟨h.os, h.tape, h.output, Nat.le_trans h.size (by simp [World.setCell]), fun k hk hx => by
    have hn : k ≠ p.block := fun e => by
      rcases hp with hp | hp
      · omega
      · rw [e, hp] at hx; cases hx
    exact (Below.heap_setCell w p u k hn).trans (h.block k hk hx)⟩
theorem Kp.below {W w : World} (h : Kp (fun _ => false) W w) : Below W.heap.size W w := ⟨h.os, h.tape, h.output, h.size, fun k hk => h.block k hk rfl⟩
theorem Kp.cell {X : Nat → Bool} {W w : World} (h : Kp X W w) {p : Addr} (hp : p.block < W.heap.size) (hx : X p.block = false) : w.cell? p = W.cell? p := World.cell?_of_block (h.block p.block hp hx)
theorem Kp.grown {b : Nat} {W w : World} (h : Kp (fun k => Nat.beq k b) W w) : W.grownBy w (some b) :=
  ⟨h.os, h.tape, h.output, h.size, fun k hk hn => h.block k hk (by
    cases hb : Nat.beq k b with
    | false => rfl
    | true => exact absurd (by rw [Nat.eq_of_beq_eq_true hb]) hn)⟩
/-- The world at a function's beginning, and which of its blocks the function may write. -/
structure Bs : Type where
  w : World
  X : Nat → Bool
  /-- What is deferred. -/
  D : List Deferred
def Bs.of (w : World) : Bs := ⟨w, fun _ => false, []⟩
def Bs.kp (W : Bs) (w : World) : Prop := Kp W.X W.w w
/-- The things are there, each in blocks of its own. -/
structure QOk (W : Bs) (n : Nat) (β : Nat → Loc) (σ : SS) (w : World) : Prop where
  qa : ∀ x p, σ.q x = some p → p.p (β x).v (β x).F w ∧ ∀ b, (β x).F b = true → (W.w.heap.size ≤ b ∨ W.X b = true) ∧ b < w.heap.size
  qm : ∀ x y, (σ.q x).isSome = true → (σ.m y).isSome = true → (β x).F (β y).b = false
  qq : ∀ x y, (σ.q x).isSome = true → (σ.q y).isSome = true → x ≠ y → ∀ b, (β x).F b = true → (β y).F b = false
  qt : ∀ j v x g, j < n → σ.s j = some v → v.u = some (x, g) → (σ.q x).isSome = true
theorem QOk.to {W : Bs} {n : Nat} {β β' : Nat → Loc} {σ σ' : SS} {w w' : World} (h : QOk W n β σ w) (e1 : ∀ x, σ'.q x = σ.q x)
    (e2 : ∀ y, (σ'.m y).isSome = true → ((σ.m y).isSome = true ∧ (β' y).b = (β y).b) ∨ w.heap.size ≤ (β' y).b)
    (e3 : ∀ x, (σ.q x).isSome = true → (β' x).v = (β x).v ∧ (β' x).F = (β x).F)
    (e4 : ∀ j v x g, j < n → σ'.s j = some v → v.u = some (x, g) → (σ.q x).isSome = true)
    (hs : w.heap.size ≤ w'.heap.size) (hb : ∀ x, (σ.q x).isSome = true → ∀ b, (β x).F b = true → w'.heap[b]? = w.heap[b]?) : QOk W n β' σ' w' := by
  refine ⟨fun x p hx => ?_, fun x y hx hy => ?_, fun x y hx hy hn b hbx => ?_, fun j v x g hj hv e => ?_⟩
  · rw [e1] at hx
    have hx' : (σ.q x).isSome = true := by rw [hx]; rfl
    obtain ⟨h1, h2⟩ := h.qa x p hx
    rw [(e3 x hx').1, (e3 x hx').2]
    exact ⟨p.keep hs (hb x hx') h1, fun b hbb => ⟨(h2 b hbb).1, Nat.lt_of_lt_of_le (h2 b hbb).2 hs⟩⟩
  · rw [e1] at hx
    rw [(e3 x hx).2]
    rcases e2 y hy with ⟨hm, hbe⟩ | hge
    · rw [hbe]; exact h.qm x y hx hm
    · obtain ⟨p, hp⟩ := Option.isSome_iff_exists.1 hx
      cases hF : (β x).F (β' y).b with
      | false => rfl
      | true => have := ((h.qa x p hp).2 _ hF).2; omega
  · rw [e1] at hx hy
    rw [(e3 x hx).2] at hbx
    rw [(e3 y hy).2]
    exact h.qq x y hx hy hn b hbx
  · rw [e1]; exact e4 j v x g hj hv e
/-- The state stands for a frame and a world: W is the world at the function's beginning. -/
structure Rep (W : Bs) (n : Nat) (β : Nat → Loc) (σ : SS) (a : Act) (w : World) : Prop where
  df : a.defers = W.D
  sz : a.tmps.size = n
  sl : ∀ j v, j < n → σ.s j = some v → a.tmps[j]? = some (v.at β)
  bl : W.kp w
  va : ∀ x cs, σ.m x = some cs → (W.w.heap.size ≤ (β x).b ∨ W.X (β x).b = true) ∧ (β x).b < w.heap.size ∧ w.rangeAt (β x).b 0 cs ∧ w.there (β x).b 0 cs.length
  ne : ∀ x y, (σ.m x).isSome = true → (σ.m y).isSome = true → x ≠ y → (β x).b ≠ (β y).b
  /-- No slot leads to a variable that isn't there. -/
  pt : ∀ j v x o, j < n → σ.s j = some v → v.p = some (x, o) → (σ.m x).isSome = true
  qk : QOk W n β σ w

theorem Rep.eval {W : Bs} {n : Nat} {β : Nat → Loc} {σ : SS} {a : Act} {w : World} (h : Rep W n β σ a w) {x : Operand} {v : SV} (hv : σ.ev n x = some v) : a.eval x = v.at β := by
  cases x with
  | tmp j =>
    simp only [Act.eval]
    simp only [SS.ev] at hv
    by_cases hj : j < n
    · rw [if_pos hj] at hv
      have := h.sl j v hj hv
      simp [Array.getD_eq_getD_getElem?, this]
    · rw [if_neg hj] at hv
      have : a.tmps[j]? = none := Array.getElem?_eq_none (by rw [h.sz]; exact Nat.le_of_not_lt hj)
      cases hv
      simp [Array.getD_eq_getD_getElem?, this, SV.at]
  | _ => cases hv; rfl
/-- A value goes into a slot. -/
theorem Rep.put {W : Bs} {n : Nat} {β : Nat → Loc} {σ : SS} {a : Act} {w : World} (h : Rep W n β σ a w) (d : Option Nat) (v : SV) (hv : ∀ x o, v.p = some (x, o) → (σ.m x).isSome = true) (hu : ∀ x g, v.u = some (x, g) → (σ.q x).isSome = true) : Rep W n β (σ.set d v) (a.put d (v.at β)) w := by
  cases d with
  | none => exact h
  | some d =>
    refine ⟨h.df, by simp [Act.put, h.sz], fun j u hj hu => ?_, h.bl, h.va, h.ne, fun j u x o hj hu e => ?_, h.qk.to (fun _ => rfl) (fun y hy => Or.inl ⟨hy, rfl⟩) (fun x hx => ⟨rfl, rfl⟩) (fun j u x g hj hq e => ?_) (Nat.le_refl _) (fun _ _ _ _ => rfl)⟩
    · simp only [Act.put, SS.set] at hu ⊢
      by_cases e : j = d
      · subst e
        rw [if_pos rfl] at hu
        cases hu
        simp [h.sz, hj]
      · rw [if_neg e] at hu
        rw [Array.getElem?_setIfInBounds_ne (Ne.symm e)]
        exact h.sl j u hj hu
    · simp only [SS.set] at hu ⊢
      by_cases ej : j = d
      · rw [if_pos ej] at hu
        cases hu
        exact hv x o e
      · rw [if_neg ej] at hu
        exact h.pt j u x o hj hu e
    · simp only [SS.set] at hq
      by_cases ej : j = d
      · rw [if_pos ej] at hq
        cases hq
        exact hu x g e
      · rw [if_neg ej] at hq
        exact h.qk.qt j u x g hj hq e
/-- The blocks may be told otherwise where no variable lies. -/
theorem Rep.other {W : Bs} {n : Nat} {β β' : Nat → Loc} {σ : SS} {a : Act} {w : World} (h : Rep W n β σ a w) (e : ∀ x, (σ.m x).isSome = true → (β' x).b = (β x).b) (e' : ∀ x, (σ.q x).isSome = true → (β' x).v = (β x).v ∧ (β' x).F = (β x).F) : Rep W n β' σ a w := by
  refine ⟨h.df, h.sz, fun j u hj hu => ?_, h.bl, fun x cs hx => ?_, fun x y hx hy hn => ?_, h.pt, h.qk.to (fun _ => rfl) (fun y hy => Or.inl ⟨hy, e y hy⟩) e' h.qk.qt (Nat.le_refl _) (fun _ _ _ _ => rfl)⟩
  · rw [h.sl j u hj hu]
    have hp := h.pt j u
    have hq := h.qk.qt j u
    obtain ⟨v, q, k, r⟩ := u
    cases r with
    | some r => simp only [SV.at, (e' r.1 (hq r.1 r.2 hj hu rfl)).1]
    | none => cases q with
      | none => rfl
      | some q => cases k <;> simp only [SV.at, e q.1 (hp q.1 q.2 hj hu rfl)]
  · rw [e x (by simp [hx])]; exact h.va x cs hx
  · rw [e x hx, e y hy]; exact h.ne x y hx hy hn
/-- Another world in which all that counts is as it was. -/
theorem Rep.grow {W : Bs} {n : Nat} {β : Nat → Loc} {σ : SS} {a : Act} {w w' : World} (h : Rep W n β σ a w) (hb : Below w.heap.size w w') : Rep W n β σ a w' := by
  refine ⟨h.df, h.sz, h.sl, Kp.grow h.bl hb, fun x cs hx => ?_, h.ne, h.pt, h.qk.to (fun _ => rfl) (fun y hy => Or.inl ⟨hy, rfl⟩) (fun x hx => ⟨rfl, rfl⟩) h.qk.qt hb.size (fun x hx b hF => ?_)⟩
  rotate_left
  · obtain ⟨p, hp⟩ := Option.isSome_iff_exists.1 hx
    exact hb.block b ((h.qk.qa x p hp).2 b hF).2
  obtain ⟨h1, h2, h3, h4⟩ := h.va x cs hx
  refine ⟨h1, Nat.lt_of_lt_of_le h2 hb.size, fun j v hv => ?_, fun j hj => ?_⟩
  · rw [hb.cell (p := ⟨(β x).b, 0 + j, none⟩) h2]; exact h3 j v hv
  · rw [hb.cell (p := ⟨(β x).b, 0 + j, none⟩) h2, hb.frozen (p := ⟨(β x).b, 0 + j, none⟩) h2]; exact h4 j hj
theorem Rep.drew {W : Bs} {n : Nat} {β : Nat → Loc} {σ : SS} {a : Act} {w : World} (h : Rep W n β σ a w) : Rep W n β σ a w.drew := h.grow (Below.drew (Below.refl _ _))

/-- A step of the state: the operation goes through, and the frame and world behind it are what the next state stands for. -/
def Step (P : Program) (W : Bs) (n : Nat) (o : Oper) (σ σ' : SS) : Prop :=
  ∀ (β : Nat → Loc) (a : Act) (w : World) (Q : Exit → Act → World → Prop), Rep W n β σ a w → Oper.wp P o a w (fun a' w' => ∃ β', Rep W n β' σ' a' w') Q
theorem val_hu {σ : SS} {v : Value} : ∀ x g, (SV.val v).u = some (x, g) → (σ.q x).isSome = true := fun _ _ e => by cases e
theorem val_hp {σ : SS} {v : Value} : ∀ x c, (SV.val v).p = some (x, c) → (σ.m x).isSome = true := fun _ _ e => by cases e
theorem Rep.below {W : Bs} {n : Nat} {β : Nat → Loc} {σ : SS} {a : Act} {w : World} (h : Rep W n β σ a w) : W.kp w := h.bl
theorem SS.isSome_var {σ : SS} {x : Nat} {cs : List Value} {y : Nat} (h : (σ.m y).isSome = true) : ((σ.var x cs).m y).isSome = true := by
  simp only [SS.var]
  split
  · rfl
  · exact h
/-- What an operation does to the state: the slot that it writes, the variable that it makes or writes. -/
structure OE : Type where
  s : Option (Nat × SV)
  m : Option (Nat × List Value)
  q : Option (Nat × Pd)
  /-- A thing of which nothing is known any more. -/
  l : Option Nat
  /-- .. and another. -/
  l2 : Option Nat
def OE.slot (x : OE) : Option Nat := match x.s with
  | some q => some q.1
  | none => none
def OE.touch (x : OE) : Option Nat := match x.m with
  | some q => some q.1
  | none => none
def OE.take (x : OE) : Option Nat := match x.q with
  | some q => some q.1
  | none => none
def pd0 : Pd := ⟨fun _ _ _ => True, fun _ _ h => h⟩
def OE.app (x : OE) (σ : SS) : SS := ⟨match x.s with
  | some (d, v) => fun j => if j = d then some v else σ.s j
  | none => σ.s, match x.m with
  | some (y, cs) => fun z => if z = y then some cs else σ.m z
  | none => σ.m, fun z => if x.l = some z then some pd0 else if x.l2 = some z then some pd0 else match x.q with
  | some (y, p) => if z = y then some p else σ.q z
  | none => σ.q z⟩
def e0 : OE := ⟨none, none, none, none, none⟩
def OE.pd (x : OE) : Pd := match x.q with
  | some q => q.2
  | none => pd0
def OE.sv (x : OE) : SV := match x.s with
  | some q => q.2
  | none => .val undef
def OE.cells (x : OE) : List Value := match x.m with
  | some q => q.2
  | none => []
theorem OE.app_s (x : OE) (σ : SS) (j : Nat) : (x.app σ).s j = if x.slot = some j then some x.sv else σ.s j := by
  obtain ⟨s, m, q, l, l2⟩ := x
  cases s with
  | none => simp [OE.app, OE.slot]
  | some q =>
    simp only [OE.app, OE.slot, OE.sv, Option.some.injEq]
    by_cases h : j = q.1
    · simp [h]
    · simp [h, Ne.symm h]
theorem OE.app_m (x : OE) (σ : SS) (y : Nat) : (x.app σ).m y = if x.touch = some y then some x.cells else σ.m y := by
  obtain ⟨s, m, q, l, l2⟩ := x
  cases m with
  | none => simp [OE.app, OE.touch]
  | some q =>
    simp only [OE.app, OE.touch, OE.cells, Option.some.injEq]
    by_cases h : y = q.1
    · simp [h]
    · simp [h, Ne.symm h]
/-- The state behind those that have come up. -/
def run (L : Nat → Bool) : Nat → List OE → SS → SS
  | _, [], σ => σ
  | k, x :: r, σ => run L (k + 1) r (if L k then x.app σ else σ)
/-- The state stands for the frame and the world. -/
def Rp (W : Bs) (n : Nat) (σ : SS) (a : Act) (w : World) : Prop := ∃ β, Rep W n β σ a w
/-- An operation of a region as a step, also one that hangs on another's answer. -/
def GStep (P : Program) (W : Bs) (n : Nat) (ops : Array Oper) (o : Oper) (σ σ' : SS) : Prop :=
  ∀ (a : Act) (w : World) (Q : Exit → Act → World → Prop), Rp W n σ a w → if Region.wanted o (yielded ops a.tmps) = true then Oper.wp P o a w (fun a' w' => Rp W n σ' a' w') Q else Rp W n σ' (a.put o.dst undef) w
theorem Step.g {P : Program} {W : Bs} {n : Nat} {ops : Array Oper} {o : Oper} {σ σ' : SS} (hg : o.guard = none) (h : Step P W n o σ σ') : GStep P W n ops o σ σ' := by
  rintro a w Q ⟨β, hr⟩
  have : Region.wanted o (yielded ops a.tmps) = true := by simp [Region.wanted, hg]
  rw [if_pos this]
  exact Oper.wp_mono (fun a' w' h => h) (h β a w Q hr)
/-- What a guarded operation asks. -/
def SS.yes (ops : Array Oper) (n : Nat) (σ : SS) (j : Nat) : Option Bool := match (ops[j]?).bind (·.dst) with
  | some d => if d < n then (match σ.s d with
    | some ⟨.bool b, none, _, none⟩ => some b
    | _ => none) else none
  | none => none
theorem yes_eq {W : Bs} {n : Nat} {ops : Array Oper} {σ : SS} {a : Act} {w : World} (h : Rp W n σ a w) {j : Nat} {b : Bool} (hy : σ.yes ops n j = some b) : yielded ops a.tmps j = some b := by
  obtain ⟨β, hr⟩ := h
  unfold SS.yes at hy
  unfold yielded
  cases hd : (ops[j]?).bind (·.dst) with
  | none => rw [hd] at hy; cases hy
  | some d =>
    rw [hd] at hy
    simp only [Option.bind_some]
    by_cases hn : d < n
    · simp only [hn, if_true] at hy
      have hsl := hr.sl d
      generalize σ.s d = t at hy hsl
      split at hy
      · cases hy
        rw [hsl _ hn rfl]
        rfl
      · cases hy
    · simp [hn] at hy
theorem Step.yes {P : Program} {W : Bs} {n : Nat} {ops : Array Oper} {o : Oper} {σ σ' : SS} (j : Nat) (b : Bool) (hg : o.guard = some (j, b)) (hy : σ.yes ops n j = some b) (h : Step P W n o σ σ') : GStep P W n ops o σ σ' := by
  intro a w Q hr
  have : Region.wanted o (yielded ops a.tmps) = true := by simp [Region.wanted, hg, yes_eq hr hy]
  rw [if_pos this]
  obtain ⟨β, hr⟩ := hr
  exact Oper.wp_mono (fun a' w' h => h) (h β a w Q hr)
theorem Step.no {P : Program} {W : Bs} {n : Nat} {ops : Array Oper} {o : Oper} {σ : SS} (j : Nat) (b : Bool) (hg : o.guard = some (j, b)) (hy : σ.yes ops n j = some (!b)) : GStep P W n ops o σ (σ.set o.dst (.val undef)) := by
  intro a w Q hr
  have : Region.wanted o (yielded ops a.tmps) = false := by
    have h1 := yes_eq hr hy
    cases b <;> simp [Region.wanted, hg, h1]
  rw [this]
  simp only [Bool.false_eq_true, if_false]
  obtain ⟨β, hr⟩ := hr
  exact ⟨β, hr.put o.dst (.val undef) val_hp val_hu⟩
/-- Those that must have come up. -/
def deps (o : Oper) : List Nat := o.after.toList.filterMap fun e => if Region.binds .any e = true then some e.on else none
def Closed (ops : Array Oper) (L : Nat → Bool) : Prop := ∀ k o, ops[k]? = some o → L k = true → ∀ j ∈ deps o, L j = true
def has (ds : List Nat) (k : Nat) : Bool := match ds with
  | [] => false
  | d :: r => Nat.beq d k || has r k
theorem has_mem {k : Nat} : ∀ {ds : List Nat}, has ds k = true → k ∈ ds
  | [], h => by cases h
  | d :: r, h => by
    simp only [has, Bool.or_eq_true] at h
    rcases h with h | h
    · simp [Nat.eq_of_beq_eq_true h]
    · simp [has_mem h]
def isSlot (d : Option Nat) (j : Nat) : Bool := match d with
  | some x => Nat.beq x j
  | none => false
theorem isSlot_iff {d : Option Nat} {j : Nat} : isSlot d j = true ↔ d = some j := by
  cases d with
  | none => simp [isSlot]
  | some x => simp [isSlot]
/-- What lies in a slot behind those that have come up, of whom ds are some, and i is none. -/
def lookD (ds : List Nat) (i : Nat) : Nat → List Oper → List OE → Nat → Option SV → Option SV
  | _, _, [], _, v => v
  | _, [], _ :: _, _, _ => none
  | k, o :: os, x :: r, j, v => lookD ds i (k + 1) os r j (bif isSlot x.slot j then (bif has ds k then some x.sv else bif Nat.beq k i || has (deps o) i then v else none) else v)
theorem lookD_ok {ds : List Nat} {j i : Nat} {L : Nat → Bool} (hL : ∀ i ∈ ds, L i = true) (hi : L i = false) : ∀ (os : List Oper) (xs : List OE) (k : Nat) {v0 : Option SV} {v : SV} {σ : SS}, (∀ j o, os[j]? = some o → L (k + j) = true → ∀ e ∈ deps o, L e = true) →
    lookD ds i k os xs j v0 = some v → (∀ u, v0 = some u → σ.s j = some u) → (run L k xs σ).s j = some v
  | os, [], k, v0, v, σ, _, h, h0 => by
    rw [lookD] at h
    exact h0 v h
  | [], x :: r, k, v0, v, σ, _, h, _ => by
    rw [lookD] at h
    cases h
  | o :: os, x :: r, k, v0, v, σ, hc, h, h0 => by
    rw [lookD] at h
    rw [run]
    refine lookD_ok hL hi os r (k + 1) (fun j o' ho hj => hc (j + 1) o' (by simpa using ho) (by rw [show k + (j + 1) = k + 1 + j by omega]; exact hj)) h (fun u hu => ?_)
    cases hs : isSlot x.slot j with
    | false =>
      simp only [hs, cond_false] at hu
      rw [← h0 u hu]
      split
      · rw [OE.app_s, if_neg (fun e => by rw [isSlot_iff.2 e] at hs; cases hs)]
      · rfl
    | true =>
      simp only [hs, cond_true] at hu
      cases hk : has ds k with
      | true =>
        simp only [hk, cond_true, Option.some.injEq] at hu
        rw [hL k (has_mem hk), if_pos rfl, OE.app_s, if_pos (isSlot_iff.1 hs), hu]
      | false =>
        simp only [hk, cond_false] at hu
        cases hb : Nat.beq k i || has (deps o) i with
        | false => simp [hb] at hu
        | true =>
          simp only [hb, cond_true] at hu
          have hk0 : L k = false := by
            simp only [Bool.or_eq_true] at hb
            rcases hb with hb | hb
            · rw [Nat.eq_of_beq_eq_true hb]; exact hi
            · cases hLk : L k with
              | false => rfl
              | true =>
                have := hc 0 o rfl hLk i (has_mem hb)
                rw [hi] at this
                cases this
          rw [hk0]
          simp only [Bool.false_eq_true, if_false]
          exact h0 u hu
/-- What a variable's cells are. -/
def lookM (ds : List Nat) (i : Nat) : Nat → List Oper → List OE → Nat → Option (Option (List Value)) → Option (Option (List Value))
  | _, _, [], _, v => v
  | _, [], _ :: _, _, _ => none
  | k, o :: os, x :: r, y, v => lookM ds i (k + 1) os r y (bif isSlot (x.touch) y then (bif has ds k then some (some x.cells) else bif Nat.beq k i || has (deps o) i then v else none) else v)
theorem lookM_ok {ds : List Nat} {y i : Nat} {L : Nat → Bool} (hL : ∀ i ∈ ds, L i = true) (hi : L i = false) : ∀ (os : List Oper) (xs : List OE) (k : Nat) {v0 : Option (Option (List Value))} {v : Option (List Value)} {σ : SS}, (∀ j o, os[j]? = some o → L (k + j) = true → ∀ e ∈ deps o, L e = true) →
    lookM ds i k os xs y v0 = some v → (∀ u, v0 = some u → σ.m y = u) → (run L k xs σ).m y = v
  | os, [], k, v0, v, σ, _, h, h0 => by
    rw [lookM] at h
    exact h0 v h
  | [], x :: r, k, v0, v, σ, _, h, _ => by
    rw [lookM] at h
    cases h
  | o :: os, x :: r, k, v0, v, σ, hc, h, h0 => by
    rw [lookM] at h
    rw [run]
    refine lookM_ok hL hi os r (k + 1) (fun j o' ho hj => hc (j + 1) o' (by simpa using ho) (by rw [show k + (j + 1) = k + 1 + j by omega]; exact hj)) h (fun u hu => ?_)
    cases hs : isSlot (x.touch) y with
    | false =>
      simp only [hs, cond_false] at hu
      rw [← h0 u hu]
      split
      · rw [OE.app_m, if_neg (fun e => by rw [isSlot_iff.2 e] at hs; cases hs)]
      · rfl
    | true =>
      simp only [hs, cond_true] at hu
      cases hk : has ds k with
      | true =>
        simp only [hk, cond_true, Option.some.injEq] at hu
        rw [hL k (has_mem hk), if_pos rfl, OE.app_m, if_pos (isSlot_iff.1 hs)]
        exact hu
      | false =>
        simp only [hk, cond_false] at hu
        cases hb : Nat.beq k i || has (deps o) i with
        | false => simp [hb] at hu
        | true =>
          simp only [hb, cond_true] at hu
          have hk0 : L k = false := by
            simp only [Bool.or_eq_true] at hb
            rcases hb with hb | hb
            · rw [Nat.eq_of_beq_eq_true hb]; exact hi
            · cases hLk : L k with
              | false => rfl
              | true =>
                have := hc 0 o rfl hLk i (has_mem hb)
                rw [hi] at this
                cases this
          rw [hk0]
          simp only [Bool.false_eq_true, if_false]
          exact h0 u hu
/-- An operation that comes up: who has come up, and who has not. -/
structure Up (ops : Array Oper) (i : Nat) (o : Oper) (L : Nat → Bool) : Prop where
  no : L i = false
  deps : ∀ j ∈ deps o, L j = true
  cl : Closed ops L
def lookO (n : Nat) (ops : Array Oper) (i : Nat) (o : Oper) (xs : List OE) (σ : SS) : Operand → Option SV
  | .tmp j => bif Nat.blt j n then lookD (deps o) i 0 ops.toList xs j (σ.s j) else some (.val undef)
  | .const v => some (.val v)
  | .global g => some (.val (.pointer (some ⟨g, 0, none⟩)))
  | .func f => some (.val (.func (.func f) #[] #[]))
theorem Up.ev {ops : Array Oper} {i : Nat} {o : Oper} {L : Nat → Bool} (u : Up ops i o L) {n : Nat} {xs : List OE} {σ : SS} {x : Operand} {v : SV} (h : lookO n ops i o xs σ x = some v) : (run L 0 xs σ).ev n x = some v := by
  cases x with
  | tmp j =>
    simp only [lookO] at h
    simp only [SS.ev]
    cases hj : Nat.blt j n with
    | true =>
      simp only [hj, cond_true] at h
      rw [if_pos (Nat.blt_eq ▸ hj : j < n)]
      exact lookD_ok u.deps u.no ops.toList xs 0 (fun j o' ho hj e he => u.cl j o' (by simpa using ho) (by simpa using hj) e he) h (fun u hu => hu)
    | false =>
      simp only [hj, cond_false] at h
      rw [if_neg (fun e : j < n => by rw [show Nat.blt j n = true from Nat.blt_eq ▸ e] at hj; cases hj)]
      exact h
  | _ => simpa [lookO, SS.ev] using h
theorem Up.m {ops : Array Oper} {i : Nat} {o : Oper} {L : Nat → Bool} (u : Up ops i o L) {xs : List OE} {σ : SS} {y : Nat} {v : Option (List Value)} (h : lookM (Proofs.Ytpophfeommlajaa.deps o) i 0 ops.toList xs y (some (σ.m y)) = some v) : (run L 0 xs σ).m y = v :=
  lookM_ok u.deps u.no ops.toList xs 0 (fun j o' ho hj e he => u.cl j o' (by simpa using ho) (by simpa using hj) e he) h (fun u hu => by cases hu; rfl)
/-- Each operation's step. -/
def AllSt (P : Program) (W : Bs) (n : Nat) (ops : Array Oper) (xs : List OE) (σ : SS) : Nat → List Oper → List OE → Prop
  | _, [], _ => True
  | _, _ :: _, [] => False
  | i, o :: os, x :: r => (∀ L : Nat → Bool, Up ops i o L → GStep P W n ops o (run L 0 xs σ) (x.app (run L 0 xs σ))) ∧ AllSt P W n ops xs σ (i + 1) os r
theorem AllSt.at {P : Program} {W : Bs} {n : Nat} {ops : Array Oper} {xs : List OE} {σ : SS} : ∀ {i : Nat} {os : List Oper} {r : List OE}, AllSt P W n ops xs σ i os r → ∀ {j : Nat} {o : Oper} {x : OE}, os[j]? = some o → r[j]? = some x → ∀ L : Nat → Bool, Up ops (i + j) o L → GStep P W n ops o (run L 0 xs σ) (x.app (run L 0 xs σ))
  | i, [], r, _, j, o, x, ho, _, _, _ => by simp at ho
  | i, o' :: os, [], h, j, o, x, _, hx, _, _ => by simp at hx
  | i, o' :: os, x' :: r, h, j, o, x, ho, hx, L, u => by
    cases j with
    | zero =>
      simp at ho hx
      subst ho hx
      exact h.1 L u
    | succ j => exact AllSt.at h.2 (by simpa using ho) (by simpa using hx) L (by rw [show i + 1 + j = i + (j + 1) by omega]; exact u)
/-- The state at a function's beginning. -/
def lkS : List (Nat × SV) → Nat → Option SV
  | [], _ => none
  | q :: r, j => bif Nat.beq q.1 j then some q.2 else lkS r j
def lkM : List (Nat × List Value) → Nat → Option (List Value)
  | [], _ => none
  | q :: r, j => bif Nat.beq q.1 j then some q.2 else lkM r j
/-- A state, written out. -/
def lkQ : List (Nat × Pd) → Nat → Option Pd
  | [], _ => none
  | q :: r, j => bif Nat.beq q.1 j then some q.2 else lkQ r j
def SS.mkQ (s : List (Nat × SV)) (m : List (Nat × List Value)) (q : List (Nat × Pd)) : SS := ⟨lkS s, lkM m, lkQ q⟩
def SS.mk' (s : List (Nat × SV)) (m : List (Nat × List Value)) : SS := ⟨lkS s, lkM m, lkQ []⟩
def AllQ (f : Nat → Option Pd) : List (Nat × Pd) → Prop
  | [] => True
  | q :: r => f q.1 = some q.2 ∧ AllQ f r
theorem AllQ.lk {f : Nat → Option Pd} : ∀ {l : List (Nat × Pd)}, AllQ f l → ∀ {j : Nat} {v : Pd}, lkQ l j = some v → f j = some v
  | [], _, j, v, h => by cases h
  | q :: r, hl, j, v, h => by
    rw [lkQ] at h
    cases hb : Nat.beq q.1 j with
    | true =>
      simp only [hb, cond_true, Option.some.injEq] at h
      rw [← Nat.eq_of_beq_eq_true hb, ← h]
      exact hl.1
    | false =>
      simp only [hb, cond_false] at h
      exact hl.2.lk h
/-- What is known is known of another state too. -/
def AllS (f : Nat → Option SV) : List (Nat × SV) → Prop
  | [] => True
  | q :: r => f q.1 = some q.2 ∧ AllS f r
def AllM (f : Nat → Option (List Value)) : List (Nat × List Value) → Prop
  | [] => True
  | q :: r => f q.1 = some q.2 ∧ AllM f r
def aimQ (m : List (Nat × List Value)) (q : List (Nat × Pd)) : List (Nat × SV) → Bool
  | [] => true
  | z :: r => (match z.2.p with
    | some (x, _) => (lkM m x).isSome
    | none => true) && (match z.2.u with
    | some (x, _) => (lkQ q x).isSome
    | none => true) && aimQ m q r
def aimed (m : List (Nat × List Value)) (s : List (Nat × SV)) : Bool := aimQ m [] s
theorem AllS.lk {f : Nat → Option SV} : ∀ {l : List (Nat × SV)}, AllS f l → ∀ {j : Nat} {v : SV}, lkS l j = some v → f j = some v
  | [], _, j, v, h => by cases h
  | q :: r, hl, j, v, h => by
    rw [lkS] at h
    cases hb : Nat.beq q.1 j with
    | true =>
      simp only [hb, cond_true, Option.some.injEq] at h
      rw [← Nat.eq_of_beq_eq_true hb, ← h]
      exact hl.1
    | false =>
      simp only [hb, cond_false] at h
      exact hl.2.lk h
theorem AllM.lk {f : Nat → Option (List Value)} : ∀ {l : List (Nat × List Value)}, AllM f l → ∀ {j : Nat} {v : List Value}, lkM l j = some v → f j = some v
  | [], _, j, v, h => by cases h
  | q :: r, hl, j, v, h => by
    rw [lkM] at h
    cases hb : Nat.beq q.1 j with
    | true =>
      simp only [hb, cond_true, Option.some.injEq] at h
      rw [← Nat.eq_of_beq_eq_true hb, ← h]
      exact hl.1
    | false =>
      simp only [hb, cond_false] at h
      exact hl.2.lk h
theorem aimQ_lk {m : List (Nat × List Value)} {q : List (Nat × Pd)} : ∀ {l : List (Nat × SV)}, aimQ m q l = true → ∀ {j : Nat} {v : SV}, lkS l j = some v → (∀ x o, v.p = some (x, o) → (lkM m x).isSome = true) ∧ (∀ x g, v.u = some (x, g) → (lkQ q x).isSome = true)
  | [], _, j, v, h => by cases h
  | z :: r, hl, j, v, h => by
    simp only [aimQ, Bool.and_eq_true] at hl
    rw [lkS] at h
    cases hb : Nat.beq z.1 j with
    | true =>
      simp only [hb, cond_true, Option.some.injEq] at h
      have h1 := hl.1.1
      have h2 := hl.1.2
      rw [h] at h1 h2
      refine ⟨fun x o hp => ?_, fun x g hp => ?_⟩
      · rw [hp] at h1; exact h1
      · rw [hp] at h2; exact h2
    | false =>
      simp only [hb, cond_false] at h
      exact aimQ_lk hl.2 h
theorem QOk.sub {W : Bs} {n : Nat} {β : Nat → Loc} {σ σ' : SS} {w : World} (h : QOk W n β σ w) (e1 : ∀ x p, σ'.q x = some p → σ.q x = some p) (e2 : ∀ y, (σ'.m y).isSome = true → (σ.m y).isSome = true) (e4 : ∀ j v x g, j < n → σ'.s j = some v → v.u = some (x, g) → (σ'.q x).isSome = true) : QOk W n β σ' w := by
  have e1' : ∀ x, (σ'.q x).isSome = true → (σ.q x).isSome = true := fun x hx => by
    obtain ⟨p, hp⟩ := Option.isSome_iff_exists.1 hx
    rw [e1 x p hp]; rfl
  exact ⟨fun x p hx => h.qa x p (e1 x p hx), fun x y hx hy => h.qm x y (e1' x hx) (e2 y hy), fun x y hx hy => h.qq x y (e1' x hx) (e1' y hy), e4⟩
/-- What isn't wanted any more is let go. -/
theorem Rp.keepQ {W : Bs} {n : Nat} {σ : SS} {a : Act} {w : World} (h : Rp W n σ a w) (s : List (Nat × SV)) (m : List (Nat × List Value)) (q : List (Nat × Pd)) (h1 : AllS σ.s s) (h2 : AllM σ.m m) (hq : AllQ σ.q q) (h3 : aimQ m q s = true) : Rp W n (SS.mkQ s m q) a w := by
  obtain ⟨β, hr⟩ := h
  refine ⟨β, hr.df, hr.sz, fun j v hj hv => hr.sl j v hj (h1.lk hv), hr.bl, fun x cs hx => hr.va x cs (h2.lk hx), fun x y hx hy hn => ?_, fun j v x o hj hv e => (aimQ_lk h3 hv).1 x o e, hr.qk.sub (fun x p hx => hq.lk hx) (fun y hy => ?_) (fun j v x g hj hv e => (aimQ_lk h3 hv).2 x g e)⟩
  · obtain ⟨cx, hcx⟩ := Option.isSome_iff_exists.1 hx
    obtain ⟨cy, hcy⟩ := Option.isSome_iff_exists.1 hy
    exact hr.ne x y (by rw [h2.lk hcx]; rfl) (by rw [h2.lk hcy]; rfl) hn
  · obtain ⟨cy, hcy⟩ := Option.isSome_iff_exists.1 hy
    rw [h2.lk hcy]; rfl
theorem Rp.keep {W : Bs} {n : Nat} {σ : SS} {a : Act} {w : World} (h : Rp W n σ a w) (s : List (Nat × SV)) (m : List (Nat × List Value)) (h1 : AllS σ.s s) (h2 : AllM σ.m m) (h3 : aimed m s = true) : Rp W n (SS.mk' s m) a w := h.keepQ s m [] h1 h2 trivial h3
def SS.init (args : List Value) : SS := ⟨fun j => some (.val (args.getD j undef)), fun _ => none, fun _ => none⟩
theorem enter {P : Program} {f : FuncId} {fn : Func} {c : Code} {args : List Value} {w : World} {R : Ending → World → Prop} (hf : P.funcs[f]? = some fn) (hb : fn.body = some c) (n : Nat) (hn : fn.ntmps = n) (hl : args.length ≤ n)
    (h : ∀ a, Rp (Bs.of w) n (SS.init args) a w → c.wp P (bodyPost P fn R) a w) : Calls P f args.toArray w R := by
  refine calls_of_wp hf hb (h _ ⟨fun _ => ⟨0, undef, fun _ => false⟩, rfl, ?_, ?_, Kp.refl _ _, fun x cs hx => (by cases hx), fun x y hx => (by cases hx), fun j v x o _ hv e => (by cases hv; cases e), ⟨fun x p hx => (by cases hx), fun x y hx => (by cases hx), fun x y hx => (by cases hx), fun j v x g _ hv e => (by cases hv; cases e)⟩⟩)
  · simp [hn]; omega
  · intro j v hj hv
    cases hv
    simp only [SV.at]
    by_cases h1 : j < args.length
    · rw [Array.getElem?_append_left (by simpa using h1)]
      simp [h1]
    · rw [Array.getElem?_append_right (by simpa using h1)]
      have h2 : (Array.replicate (fn.ntmps - args.toArray.size) undef)[j - args.toArray.size]? = some undef := by
        rw [Array.getElem?_replicate, if_pos (by simp [hn]; omega)]
      rw [h2, List.getD_eq_getElem?_getD, List.getElem?_eq_none (Nat.le_of_not_lt h1)]
      rfl
theorem Rp.below {W : Bs} {n : Nat} {σ : SS} {a : Act} {w : World} (h : Rp W n σ a w) : W.kp w := let ⟨_, h⟩ := h; h.bl
section
variable {P : Program} {W : Bs} {n : Nat} {ops : Array Oper} {i : Nat} {o : Oper} {L : Nat → Bool} {xs : List OE} {σ : SS}

end


section
variable {P : Program} {W : Bs} {n : Nat} {ops : Array Oper} {i : Nat} {o : Oper} {L : Nat → Bool} {xs : List OE} {σ : SS}

/-- A callee has written a variable. -/
theorem Rep.written {β : Nat → Loc} {τ : SS} {a : Act} {w w' : World} (h : Rep W n β τ a w) (x : Nat) {cs : List Value} (hx : τ.m x = some cs) (hw : w.grownBy w' (some (β x).b)) (cs' : List Value) (h3 : w'.rangeAt (β x).b 0 cs') (h4 : w'.there (β x).b 0 cs'.length) : Rep W n β (τ.var x cs') a w' := by
  obtain ⟨b1, b2, _, _⟩ := h.va x cs hx
  have hk : Kp W.X W.w w := h.bl
  have hbl : W.kp w' := ⟨hw.os.trans hk.os, hw.tape.trans hk.tape, hw.output.trans hk.output, Nat.le_trans hk.size hw.size, fun k hlt hx => (hw.block k (Nat.lt_of_lt_of_le hlt hk.size) (fun e => by
    have e := Option.some.inj e
    rcases b1 with b1 | b1
    · omega
    · rw [← e, hx] at b1; cases b1)).trans (hk.block k hlt hx)⟩
  have hqk : QOk W n β (τ.var x cs') w' := h.qk.to (fun _ => rfl) (fun y hy => Or.inl ⟨(by
    by_cases e : y = x
    · rw [e, hx]; rfl
    · simpa [SS.var, e] using hy), rfl⟩) (fun x hx => ⟨rfl, rfl⟩) h.qk.qt hw.size (fun y hy b hF => by
    obtain ⟨p, hp⟩ := Option.isSome_iff_exists.1 hy
    refine hw.block b ((h.qk.qa y p hp).2 b hF).2 (fun e => ?_)
    have := h.qk.qm y x hy (by rw [hx]; rfl)
    rw [← Option.some.inj e, hF] at this
    cases this)
  refine ⟨h.df, h.sz, h.sl, hbl, fun y cy hy => ?_, fun y z hy hz hn => ?_, fun j u y o hj hu e => SS.isSome_var (h.pt j u y o hj hu e), hqk⟩
  · by_cases e : y = x
    · subst e
      simp only [SS.var, if_true, Option.some.injEq] at hy
      subst hy
      exact ⟨b1, Nat.lt_of_lt_of_le b2 hw.size, h3, h4⟩
    · simp only [SS.var, if_neg e] at hy
      obtain ⟨c1, c2, c3, c4⟩ := h.va y cy hy
      have hne := h.ne y x (by simp [hy]) (by simp [hx]) e
      have hsame : w'.heap[(β y).b]? = w.heap[(β y).b]? := hw.block _ c2 (fun e => hne (Option.some.inj e))
      refine ⟨c1, Nat.lt_of_lt_of_le c2 hw.size, fun j v hv => ?_, fun j hj => ?_⟩
      · rw [World.cell?_of_block (w := w) hsame]; exact c3 j v hv
      · rw [World.cell?_of_block (w := w) hsame, World.frozen?_of_block (w := w) hsame]; exact c4 j hj
  · refine h.ne y z ?_ ?_ hn
    · by_cases e : y = x
      · rw [e, hx]; rfl
      · simpa [SS.var, e] using hy
    · by_cases e : z = x
      · rw [e, hx]; rfl
      · simpa [SS.var, e] using hz
end
end Go.Proofs.Ytpophfeommlajaa
