/- Layer 17: parts of a tree in memory, and steps that touch them. -/
import Derived.Test.YtjobcffelbddcaaDoorP16A
import Derived.Test.YtjobcffelbddcaaDoorH17
import Derived.Test.YtjobcffelbddcaaDoorM17B
import Derived.Test.YtjobcffelbddcaaDoorKGrown
namespace Go.Proofs.YtjobcffelbddcaaDoor
set_option maxRecDepth 100000
open Go.RowKit
attribute [local go_sem ↓] Go.wp_at_zero Go.wp_at_succ

/-- A part's cells: its root, and how many hashes it has. -/
def pa (q : Pt2) : List Value := ab q.1 32 ++ [.int .i64 ((q.2 : Nat) : Int)]
theorem pa_len (q : Pt2) : (pa q).length = 33 := by unfold pa; rw [List.length_append, ab_len]; rfl
theorem pa_one (q : Pt2) : ∀ v ∈ pa q, v.oneCell' = true := by
  intro v hv
  unfold pa at hv
  rcases List.mem_append.1 hv with h | h
  · exact ab_one _ _ v h
  · rw [List.mem_singleton] at h
    subst h
    rfl
abbrev pv (q : Pt2) : Value := .agg (pa q).toArray
def z17 : Pt2 := (fun _ => 0, 0)
theorem infoP : (Tryd.prog.info? 42).map (fun i => (i.zero, i.size, i.bytes)) = some (some (pv z17), 33, 40) := by kernel_rfl
theorem sizeP : (Tryd.prog.info? 42).map (·.size) = some 33 := by kernel_rfl
theorem inP (q : Pt2) : (Tryd.prog.info? 42).map (·.size) = some (pa q).toArray.size := by rw [List.size_toArray, pa_len]; exact sizeP
theorem ilP (q : Pt2) : (Tryd.prog.info? 42).map (·.size) = some (pa q).length := by rw [pa_len]; exact sizeP
theorem pa_root {w : World} {b o : Nat} {q : Pt2} (h : w.rangeAt b o (pa q)) : w.rangeAt b o (ab q.1 32) := fun j v hv => by
  refine h j v ?_
  have hj : j < (ab q.1 32).length := by
    rcases Nat.lt_or_ge j (ab q.1 32).length with h' | h'
    · exact h'
    · rw [List.getElem?_eq_none h'] at hv; cases hv
  unfold pa
  rw [List.getElem?_append_left hj]
  exact hv
theorem pa_size {w : World} {b o : Nat} {q : Pt2} (h : w.rangeAt b o (pa q)) : w.cell? ⟨b, o + 32, none⟩ = some (.int .i64 ((q.2 : Nat) : Int)) := by
  refine h 32 _ ?_
  unfold pa
  rw [List.getElem?_append_right (by rw [ab_len]; omega), ab_len]
  rfl
/-- A variable that is a part. -/
structure PVar (w w' : World) (g : Nat) (q : Pt2) : Prop where
  bl : Below w.heap.size w w'
  ge : w.heap.size ≤ g
  lt : g < w'.heap.size
  r : w'.rangeAt g 0 (pa q)
  t : w'.there g 0 33
theorem pvar_of {w W : World} {q : Pt2} (hb : Below w.heap.size w W) : PVar w (W.alloc (.cells (pa q).toArray 42)) W.heap.size q := by
  have hh : (W.alloc (.cells (pa q).toArray 42)).heap[W.heap.size]? = some (.cells (pa q).toArray 42) := heap_alloc_new W _
  refine ⟨K.alloc hb _, hb.size, by simp, fun j v hv => ?_, fun j hj => ⟨?_, ?_⟩⟩
  · unfold World.cell?
    simp only [hh, Nat.zero_add]
    simpa using hv
  · unfold World.cell?
    simp only [hh, Nat.zero_add]
    rw [List.getElem?_toArray, List.getElem?_eq_getElem (by rw [pa_len]; exact hj)]
    rfl
  · unfold World.frozen?
    simp only [hh]
    simp
theorem PVar.keep {w w1 w2 : World} {g : Nat} {q : Pt2} (h : PVar w w1 g q) (hb : Below w1.heap.size w1 w2) : PVar w w2 g q :=
  ⟨K.call h.bl hb, h.ge, Nat.lt_of_lt_of_le h.lt hb.size, range_keep h.r hb, fun j hj => by
    obtain ⟨h1, h2⟩ := h.t j hj
    exact ⟨by rw [hb.cell (p := ⟨g, 0 + j, none⟩) h.lt]; exact h1, (hb.frozen (p := ⟨g, 0 + j, none⟩) h.lt).trans h2⟩⟩
theorem PVar.put {w w1 : World} {g : Nat} {q : Pt2} (h : PVar w w1 g q) (p : Pt2) : PVar w (w1.setCells g 0 (pa p).toArray.toList) g p := by
  have ht : w1.there g 0 (pa p).length := by rw [pa_len]; exact h.t
  exact ⟨below_setCells _ _ h.bl h.ge, h.ge, by rw [size_setCells]; exact h.lt, World.rangeAt_setCells_same _ _ _ _ ht, World.there_setCells h.t _ _ _⟩
set_option maxRecDepth 100000 in
theorem builtP (f : Nat → Nat) (x : Int) : Tryd.prog.built 42 [(0, .agg (ab f 32).toArray), (1, .int .i64 x)] = some (ab f 32 ++ [Value.int .i64 x]).toArray := by kernel_rfl
set_option maxRecDepth 100000 in
theorem fillP (q : Pt2) (z : Value) (hz : z = pv z17) : Instr.fill (fun i => some (i * 33, 33)) ((Array.range (1 * 33)).map (z.cells[· % z.cells.size]!)) [(0, pv q)] = some (pa q).toArray := by
  subst hz
  kernel_rfl
section
variable {w : World} {ops : Array Oper} {rest : List Oper} {o : Oper} {a : Act} {Q : Exit → Act → World → Prop} {Kt : Act → World → Prop}
theorem run_alloc_part (hop : o.op = Op.alloc 42) : (execOp a.eval o).run Tryd.prog w = .ok (.value (.pointer (some ⟨w.heap.size, 0, none⟩))) (w.alloc (.cells (pa z17).toArray 42)) := by
  unfold execOp
  simp [hop, Instr.alloc, newVar, newRow, Result.andThen, Value.cells]
  rfl
theorem wp_alloc_part (hop : o.op = Op.alloc 42) (hK : ∀ w', PVar w w' w.heap.size z17 → Kt (a.put o.dst (.pointer (some ⟨w.heap.size, 0, none⟩))) w') : Oper.wp Tryd.prog o a w Kt Q := by
  unfold Oper.wp
  rw [run_alloc_part hop]
  exact hK _ (pvar_of (Below.refl _ _))
theorem wpList_alloc_part (hgd : o.guard = none) (hop : o.op = Op.alloc 42) (hK : ∀ w', PVar w w' w.heap.size z17 → wpList Tryd.prog ops Q rest (a.put o.dst (.pointer (some ⟨w.heap.size, 0, none⟩))) w') : wpList Tryd.prog ops Q (o :: rest) a w :=
  wpList_plain hgd fun _ hK' => wp_alloc_part hop (fun w' h => hK' _ _ (hK w' h))
theorem wpList_load_part (hgd : o.guard = none) (x : Operand) (hop : o.op = Op.load 42 x) {g off : Nat} {q : Pt2} (hx : a.eval x = .pointer (some ⟨g, off, none⟩)) (ht : w.rangeAt g off (pa q)) (hK : wpList Tryd.prog ops Q rest (a.put o.dst (pv q)) w) : wpList Tryd.prog ops Q (o :: rest) a w :=
  wpList_load_mid hgd 42 x hop g off hx (pa q) _ ht Tryd.underlying42 rfl (ilP q) hK
theorem wp_store_part {W : World} {q : Pt2} (x y : Operand) (hop : o.op = Op.store 42 x y) {g : Nat} {p : Pt2} (hx : a.eval x = .pointer (some ⟨g, 0, none⟩)) (hy : a.eval y = pv p) (hv : PVar W w g q) (hK : ∀ w', PVar W w' g p → Kt (a.put o.dst undef) w') : Oper.wp Tryd.prog o a w Kt Q :=
  wp_store_mid 42 x y hop g 0 (pa p).toArray hx hy (by rw [List.size_toArray, pa_len]; exact hv.t) (inP p) (all_oneCell_toArray (pa_one p)) (hK _ (hv.put p))
theorem wpList_store_part {W : World} {q : Pt2} (hgd : o.guard = none) (x y : Operand) (hop : o.op = Op.store 42 x y) {g : Nat} {p : Pt2} (hx : a.eval x = .pointer (some ⟨g, 0, none⟩)) (hy : a.eval y = pv p) (hv : PVar W w g q) (hK : ∀ w', PVar W w' g p → wpList Tryd.prog ops Q rest (a.put o.dst undef) w') : wpList Tryd.prog ops Q (o :: rest) a w :=
  wpList_plain hgd fun _ hK' => wp_store_part x y hop hx hy hv (fun w' h => hK' _ _ (hK w' h))
theorem wp_build_part (x y : Operand) (hop : o.op = Op.build 42 #[(0, x), (1, y)]) {f : Nat → Nat} {s : Nat} (hx : a.eval x = .agg (ab f 32).toArray) (hy : a.eval y = .int .i64 (s : Int)) (hK : Kt (a.put o.dst (pv (f, s))) w) : Oper.wp Tryd.prog o a w Kt Q := by
  have hb : Tryd.prog.built 42 ((#[(0, x), (1, y)] : Array (Nat × Operand)).map fun (i, x) => (i, a.eval x)).toList = some (pa (f, s)).toArray := by
    simp only [List.map_toArray, List.map_cons, List.map_nil, hx, hy]
    exact builtP f s
  refine wp_build 42 #[(0, x), (1, y)] hop (by rw [hb]; rfl) ?_
  rw [hb]
  exact hK
theorem yieldsIf_build_part {S : World → Prop} (hw : Region.wanted o (yielded ops a.tmps) = true) (x y : Operand) (hop : o.op = Op.build 42 #[(0, x), (1, y)]) {f : Nat → Nat} {s : Nat} (hx : a.eval x = .agg (ab f 32).toArray) (hy : a.eval y = .int .i64 (s : Int)) : YieldsIf Tryd.prog ops S o (pv (f, s)) a :=
  .inl ⟨hw, fun w _ => by
    have hb : Tryd.prog.built 42 ((#[(0, x), (1, y)] : Array (Nat × Operand)).map fun (i, x) => (i, a.eval x)).toList = some (pa (f, s)).toArray := by
      simp only [List.map_toArray, List.map_cons, List.map_nil, hx, hy]
      exact builtP f s
    unfold execOp
    simp only [hop, Sem.run_bind, run_build w 42 _ _ hb, Result.andThen_ok]
    rfl⟩
end
theorem PVar.box {w : World} {q : Pt2} {cs : Array Value} (h : cs = (pa q).toArray) : PVar w (w.alloc (.cells cs 42)) w.heap.size q := by
  subst h
  exact pvar_of (Below.refl _ _)
end Go.Proofs.YtjobcffelbddcaaDoor
