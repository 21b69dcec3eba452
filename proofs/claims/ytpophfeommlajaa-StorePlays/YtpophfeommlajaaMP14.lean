/- Layer 13: sectors in memory, and in the map, at the operations. -/
import Derived.Test.YtpophfeommlajaaMP13
namespace Go.Proofs.Ytpophfeommlajaa
set_option maxRecDepth 100000
open Go.RowKit Go.Maps

theorem wanted_pos {c : Bool} {A B : Prop} (h : c = true) (a : A) : if c = true then A else B := by rw [if_pos h]; exact a
theorem wp_call {F : Nat} {op : Oper} {a : Act} {w : World} {Kt : Act → World → Prop} {Q : Exit → Act → World → Prop} {xs : Array Operand} {ts : Array TypeId} {vs : Array Value} {R : Value → World → Prop} (ho : op.op = .call { callee := .value (.func F), args := xs, argTypes := ts }) (hx : xs.map a.eval = vs) (hE : (callFunc F vs).run Try.prog w = .ok (.enter F vs) w)
    (hC : Calls Try.prog F vs w fun e w' => ∃ r, e = .returned r ∧ R r w') (h : ∀ r w', R r w' → Kt (a.put op.dst r) w') : Oper.wp Try.prog op a w Kt Q := by
  have hf : a.eval (.func F) = .func (.func F) #[] #[] := rfl
  unfold Oper.wp execOp
  simp only [ho, resolve, invoke, hf, Deferred.ofValue, hx, Sem.run_bind, Sem.run_pure, Result.andThen_ok]
  rw [show (#[] ++ vs ++ #[] : Array Value) = vs by simp, hE, Oper.upon_enter]
  refine Calls.mono hC ?_
  rintro e w' ⟨r, rfl, hr⟩
  exact h r w' hr
theorem keyed3 : Keyed Try.prog 3 := int_keyed Try.underlying3
theorem key_of {i : Nat} (h : i < 4096) : keyOf Try.prog 3 (.int .i64 (i : Int)) = some (kz i) := keyOf_int_mk Try.underlying3 (WalkArith.wf_i64 (by omega))
theorem zeroSec (w : World) : (zeroValue 93).run Try.prog w = .ok (secV z64) w := by kernel_rfl
theorem cells8_len' {l : List Nat} (h : sec l) : (cells8 l).length = 64 := by rw [cells8_len]; exact h.1
/-- What stands in the cache, or what noughts are. -/
theorem Mp.look {w : World} {mb : Nat} {D : DM} (h : Mp w mb D) {i : Nat} (hi : i < 4096) (c : Bool) :
    (Instr.lookup 57 (.map (some mb)) (.int .i64 (i : Int)) c).run Try.prog w = .ok (if c then .tuple #[secV ((D.nw i).getD z64), .bool (D.nw i).isSome] else secV ((D.nw i).getD z64)) w := by
  obtain ⟨E, hown, hE⟩ := h
  have key : ∀ v ps, secR v = some (E.atKey (kz i) (secD z64), ps) → v = secV ((D.nw i).getD z64) ∧ Maps.has E (kz i) = (D.nw i).isSome := fun v ps hv => by
    obtain ⟨l, hl, rfl, e⟩ := secR_inv hv
    have e1 := congrArg Prod.fst e
    simp only at e1
    cases hn : D.nw i with
    | none =>
      have hh := hE.not hn
      rw [atKey_of_not_has hh] at e1
      rw [← secD_inj e1]
      exact ⟨rfl, hh⟩
    | some m =>
      obtain ⟨h1, h2⟩ := hE.a i m hn
      rw [h2] at e1
      rw [← secD_inj e1]
      exact ⟨rfl, h1⟩
  cases c with
  | false =>
    obtain ⟨v, ps, hr, hv⟩ := hown.lookup keyed3 Try.underlying57 (zeroSec w) (secR_mk z64_sec) (key_of hi)
    rw [hr, (key v ps hv).1]
    rfl
  | true =>
    obtain ⟨v, ps, hr, hv⟩ := hown.look_ok keyed3 Try.underlying57 (zeroSec w) (secR_mk z64_sec) (key_of hi)
    rw [hr, (key v ps hv).1, (key v ps hv).2]
    rfl
theorem own_size {w : World} {mb n : Nat} {E : DataW Unit} (h : w.ownsMap Try.prog 3 secR mb n E) : w.ownsMap Try.prog 3 secR mb (Maps.size E) E := by
  obtain ⟨es, clock, hb, F, hs, rfl⟩ := h
  exact ⟨es, clock, hb, F, by simp [Maps.size, length_sorted], rfl⟩
/-- A sector is written. -/
theorem Mp.write {w : World} {mb : Nat} {D : DM} (h : Mp w mb D) (hok : D.ok) {i : Nat} (hi : i < D.n) {l : List Nat} (hl : sec l) :
    ∃ w', (Instr.mapUpdate 57 (.map (some mb)) (.int .i64 (i : Int)) (secV l)).run Try.prog w = .ok () w' ∧ Mp w' mb { D with nw := upd D.nw i (some l) } ∧ w.grownBy w' (some mb) := by
  obtain ⟨E, hown, hE⟩ := h
  have hsz := hE.size (hown.canon keyed3)
  have hn := hok.n
  obtain ⟨w', hr, h1, h2⟩ := hown.update keyed3 Try.underlying57 (by unfold maxLen; omega) (key_of (i := i) (by omega)) (secR_mk hl)
  exact ⟨w', hr, ⟨_, own_size h1, hE.put hown.isMap i hi l⟩, h2⟩
/-- Nothing is written any more. -/
theorem Mp.clear {w : World} {mb : Nat} {D : DM} (h : Mp w mb D) (ty : TypeId) :
    ∃ w', (Builtin.clear_ #[57] ty #[.map (some mb)]).run Try.prog w = .ok (.tuple #[]) w' ∧ Mp w' mb { D with nw := fun _ => none } ∧ w.grownBy w' (some mb) := by
  obtain ⟨E, ⟨es, clock, hb, F, hs, rfl⟩, hE⟩ := h
  refine ⟨ChangeMaps.setBlock w mb (.map #[] clock), ?_, ⟨.map [], ⟨#[], clock, ChangeMaps.heap_setBlock_same hb _, ⟨by simp, MapKept.stamped_empty clock, by simp⟩, Nat.le_refl _, rfl⟩, MpD.nil _⟩, ⟨rfl, rfl, rfl, by simp [ChangeMaps.setBlock], fun i _ hi => ChangeMaps.heap_setBlock_other hb _ (fun e => hi (by rw [e]))⟩⟩
  simp [Builtin.clear_, run_underlying Try.underlying57, MapKept.run_getObj_map hb, MapKept.run_setObj_map _ hb, Result.andThen]
  rfl
/-- A variable that is a sector is put anew. -/
structure Var (w w' : World) (g : Nat) (l : List Nat) : Prop where
  bl : Below w.heap.size w w'
  ge : w.heap.size ≤ g
  lt : g < w'.heap.size
  r : w'.rangeAt g 0 (cells8 l)
  t : w'.there g 0 64
section
variable {w : World} {ops : Array Oper} {rest : List Oper} {o : Oper} {a : Act} {Q : Exit → Act → World → Prop}
theorem wpList_look_sec (hgd : o.guard = none) (m x : Operand) (c : Bool) (hop : o.op = Op.lookup 57 m x c) {mb : Nat} {D : DM} (h : Mp w mb D) (hm : a.eval m = .map (some mb)) {i : Nat} (hx : a.eval x = .int .i64 (i : Int)) (hi : i < 4096) (hK : wpList Try.prog ops Q rest (a.put o.dst (if c then .tuple #[secV ((D.nw i).getD z64), .bool (D.nw i).isSome] else secV ((D.nw i).getD z64))) w) : wpList Try.prog ops Q (o :: rest) a w := by
  refine wpList_plain hgd fun K' hK' => ?_
  have hrun := h.look hi c
  unfold Oper.wp
  simp only [execOp, hop, hm, hx, hrun, Sem.run_bind, Sem.run_pure, Result.andThen_ok]
  exact hK' _ _ hK
theorem wpList_alloc_sec (hgd : o.guard = none) (hop : o.op = Op.alloc 93) (hK : ∀ w', Var w w' w.heap.size z64 → wpList Try.prog ops Q rest (a.put o.dst (pp w.heap.size)) w') : wpList Try.prog ops Q (o :: rest) a w := by
  refine wpList_plain hgd fun K' hK' => ?_
  unfold Oper.wp
  have hrun : (execOp a.eval o).run Try.prog w = .ok (.value (pp w.heap.size)) (w.alloc (.cells (cells8 z64).toArray 93)) := by
    unfold execOp
    simp [hop, Instr.alloc, newVar, newRow, Result.andThen, Value.cells]
    rfl
  rw [hrun]
  have hh : (w.alloc (.cells (cells8 z64).toArray 93)).heap[w.heap.size]? = some (.cells (cells8 z64).toArray 93) := heap_alloc_new w _
  refine hK' _ _ (hK _ ⟨K.alloc (Below.refl _ _) _, Nat.le_refl _, by simp, fun j v hv => ?_, fun j hj => ⟨?_, ?_⟩⟩)
  · unfold World.cell?
    simp only [hh, Nat.zero_add]
    simpa using hv
  · unfold World.cell?
    simp only [hh, Nat.zero_add]
    rw [List.getElem?_toArray, cells8_at _ j (by exact hj)]
    rfl
  · unfold World.frozen?
    simp only [hh]
    simp
theorem wpList_store_sec (hgd : o.guard = none) (x y : Operand) (hop : o.op = Op.store 93 x y) {g off : Nat} {l : List Nat} (hx : a.eval x = .pointer (some ⟨g, off, none⟩)) (hy : a.eval y = secV l) (hl : sec l) (ht : w.there g off 64) (hK : ∀ w', Hid (w' = w.setCells g off (cells8 l)) → wpList Try.prog ops Q rest (a.put o.dst undef) w') : wpList Try.prog ops Q (o :: rest) a w :=
  wpList_store_mid hgd 93 x y hop g off (cells8 l).toArray hx hy (by rw [List.size_toArray, cells8_len' hl]; exact ht) (by rw [List.size_toArray, cells8_len' hl]; exact sizeSec) (all_oneCell_toArray (cells8_one l)) (hK _ rfl)
theorem wpList_load_sec (hgd : o.guard = none) (x : Operand) (hop : o.op = Op.load 93 x) {g off : Nat} {l : List Nat} (hx : a.eval x = .pointer (some ⟨g, off, none⟩)) (hl : sec l) (ht : w.rangeAt g off (cells8 l)) (hK : wpList Try.prog ops Q rest (a.put o.dst (secV l)) w) : wpList Try.prog ops Q (o :: rest) a w :=
  wpList_load_mid hgd 93 x hop g off hx (cells8 l) _ ht Try.underlying93 rfl (by rw [cells8_len' hl]; exact sizeSec) hK
end
theorem size_sets (g : Nat) : ∀ (vs : List Value) (o : Nat) (w : World), (w.setCells g o vs).heap.size = w.heap.size
  | [], _, _ => rfl
  | v :: r, o, w => by rw [World.setCells, size_sets g r]; simp
theorem below_sets {n : Nat} {w : World} (g : Nat) (hg : n ≤ g) : ∀ (vs : List Value) (o : Nat) (w1 : World), Below n w w1 → Below n w (w1.setCells g o vs)
  | [], _, _, h => h
  | v :: r, o, w1, h => by
    rw [World.setCells]
    exact below_sets g hg r (o + 1) _ (h.setCell (p := ⟨g, o, none⟩) hg v)
theorem kp_sets {X : Nat → Bool} {w : World} (g : Nat) (hg : X g = true) : ∀ (vs : List Value) (o : Nat) (w1 : World), Kp X w w1 → Kp X w (w1.setCells g o vs)
  | [], _, _, h => h
  | v :: r, o, w1, h => by
    rw [World.setCells]
    exact kp_sets g hg r (o + 1) _ (h.setCell (p := ⟨g, o, none⟩) (Or.inr hg) v)
theorem Var.put {w w1 w2 : World} {g : Nat} {l m : List Nat} (h : Var w w1 g l) (hm : sec m) (e : w2 = w1.setCells g 0 (cells8 m)) : Var w w2 g m := by
  subst e
  exact ⟨below_sets g h.ge _ _ _ h.bl, h.ge, by rw [size_sets]; exact h.lt, World.rangeAt_setCells_same _ _ _ _ (by rw [cells8_len' hm]; exact h.t), World.there_setCells h.t _ _ _⟩
end Go.Proofs.Ytpophfeommlajaa
