/- Rows of words in memory; what the document's own Start and K answer. -/
import Derived.Test.YteplklbpehkdjaaDoorS5Turn
import Derived.Deep.WholeRow
import Derived.Deep.MidRow
import Derived.Deep.DeepCutAuto
namespace Go.Proofs.YteplklbpehkdjaaDoor
set_option maxRecDepth 100000
open Go.RowKit
attribute [local go_sem ↓] Go.wp_at_zero Go.wp_at_succ

/-- n words, as cells. -/
def aw (f : Nat → Wd) (n : Nat) : List Value := (List.range n).map (fun t => Value.int .u32 (wn (f t)))
theorem aw_len (f : Nat → Wd) (n : Nat) : (aw f n).length = n := by simp [aw]
theorem aw_at (f : Nat → Wd) {n i : Nat} (h : i < n) : (aw f n)[i]? = some (.int .u32 (wn (f i))) := by simp [aw, h]
theorem aw_one (f : Nat → Wd) (n : Nat) : ∀ v ∈ aw f n, v.oneCell' = true := by
  intro v hv
  simp only [aw, List.mem_map] at hv
  obtain ⟨i, _, rfl⟩ := hv
  rfl
theorem aw_congr {f g : Nat → Wd} {n : Nat} (h : ∀ i, i < n → f i = g i) : aw f n = aw g n := by
  unfold aw
  apply List.map_congr_left
  intro i hi
  rw [h i (List.mem_range.1 hi)]
/-- A row of n words that may be written. -/
structure RowW (w : World) (b n : Nat) (f : Nat → Wd) : Prop where
  lt : b < w.heap.size
  c : ∀ i, i < n → w.cell? ⟨b, i, none⟩ = some (.int .u32 (wn (f i)))
  z : ∀ i, i < n → w.frozen? ⟨b, i, none⟩ = false
theorem RowW.keep {W w1 : World} {b n : Nat} {f : Nat → Wd} (h : RowW W b n f) (hb : Below W.heap.size W w1) : RowW w1 b n f :=
  ⟨Nat.lt_of_lt_of_le h.lt hb.size, fun i hi => later hb (h.c i hi), fun i hi => (hb.frozen (p := ⟨b, i, none⟩) h.lt).trans (h.z i hi)⟩
theorem RowW.congr {w : World} {b n : Nat} {f g : Nat → Wd} (h : RowW w b n f) (e : ∀ i, i < n → f i = g i) : RowW w b n g :=
  ⟨h.lt, fun i hi => by rw [← e i hi]; exact h.c i hi, h.z⟩
theorem RowW.store {w : World} {b n : Nat} {f : Nat → Wd} (h : RowW w b n f) (k : Nat) (hk : k < n) (v : Wd) : RowW (w.setCell ⟨b, k, none⟩ (.int .u32 (wn v))) b n (fun i => if i = k then v else f i) := by
  refine ⟨by simpa using h.lt, fun i hi => ?_, fun i hi => by rw [World.frozen?_setCell]; exact h.z i hi⟩
  have hc := h.c i hi
  have hcs := h.c k hk
  by_cases e : i = k
  · subst e; simp [go_sem, hc]
  · simp [go_sem, hc, e]
theorem RowW.other {w : World} {b n : Nat} {f : Nat → Wd} (h : RowW w b n f) {g : Nat} (hg : b ≠ g) (k : Nat) (v : Value) : RowW (w.setCell ⟨g, k, none⟩ v) b n f :=
  ⟨by simpa using h.lt, fun i hi => by rw [World.cell?_setCell_other _ _ _ _ (by intro e; injection e with e1; exact hg e1.symm)]; exact h.c i hi, fun i hi => by rw [World.frozen?_setCell]; exact h.z i hi⟩
theorem RowW.range {w : World} {b n : Nat} {f : Nat → Wd} (h : RowW w b n f) : w.rangeAt b 0 (aw f n) := fun j v hv => by
  have hj : j < n := by
    rcases Nat.lt_or_ge j n with h' | h'
    · exact h'
    · rw [List.getElem?_eq_none (by rw [aw_len]; exact h')] at hv; cases hv
  rw [aw_at f hj] at hv
  rw [Nat.zero_add, h.c j hj]; exact hv
theorem RowW.there {w : World} {b n : Nat} {f : Nat → Wd} (h : RowW w b n f) : w.there b 0 n := fun j hj => by
  rw [Nat.zero_add, h.c j hj, h.z j hj]; exact ⟨rfl, rfl⟩
theorem size_setCells (b : Nat) : ∀ (vs : List Value) (o : Nat) (w : World), (w.setCells b o vs).heap.size = w.heap.size
  | [], _, _ => rfl
  | v :: r, o, w => by rw [World.setCells, size_setCells b r]; simp
theorem RowW.stored {w : World} {b n : Nat} {f : Nat → Wd} (h : RowW w b n f) (g : Nat → Wd) : RowW (w.setCells b 0 (aw g n)) b n g := by
  have ht : w.there b 0 (aw g n).length := by rw [aw_len]; exact h.there
  have hr := World.rangeAt_setCells_same w b 0 (aw g n) ht
  refine ⟨by rw [size_setCells]; exact h.lt, fun i hi => ?_, fun i hi => by rw [World.frozen?_setCells]; exact h.z i hi⟩
  have := hr i _ (aw_at g hi)
  rwa [Nat.zero_add] at this
/-- A new row. -/
theorem RowW.made (w : World) (t : TypeId) (n : Nat) (f : Nat → Wd) (cs : Array Value) (h : cs = (aw f n).toArray) : RowW (w.alloc (.cells cs t)) w.heap.size n f := by
  subst h
  refine ⟨by simp, fun i hi => ?_, fun i _ => ?_⟩
  · rw [cell_of_row _ _ _ _ _ _ (heap_alloc_new w _)]
    have := aw_at f hi
    simpa using this
  · exact frozen_of_row _ _ _ _ _ (heap_alloc_new w _)
/-- A whole array into the block that was made last. -/
theorem wpList_store_new {P : Program} {W : World} {ops : Array Oper} {rest : List Oper} {op : Oper} {a : Act} {Q : Exit → Act → World → Prop} (hgd : op.guard = none) (t : TypeId) (x y : Operand) (ho : op.op = .store t x y)
    (c c' : Array Value) (hx : a.eval x = .pointer (some ⟨W.heap.size, 0, none⟩)) (hy : a.eval y = .agg c') (hi : (P.info? t).map (·.size) = some c'.size) (hs : c.size = c'.size) (h1 : c'.all (·.oneCell') = true)
    (h : wpList P ops Q rest (a.put op.dst undef) (W.alloc (.cells c' t))) : wpList P ops Q (op :: rest) a (W.alloc (.cells c t)) := by
  refine wpList_plain hgd fun K hK => ?_
  unfold Oper.wp execOp
  simp only [ho, hx, hy, Instr.storeAt, Instr.sureAddr, Sem.run_bind, Sem.run_pure, Result.andThen_ok, run_storeVar_new W t c c' hi hs h1]
  exact hK _ _ h
theorem results_cell_mid {P : Program} {fn : Func} {p : Tmp} {ty : TypeId} (h : fn.results = #[.cell p ty]) (tmps : Array Value) (w : World) (b : Nat) (cs : List Value) (d : TypeDesc)
    (hp : tmps.getD p undef = .pointer (some ⟨b, 0, none⟩)) (hc : w.rangeAt b 0 cs) (hu : P.underlying ty = some d) (hd : d.isRow = true) (hi : (P.info? ty).map (·.size) = some cs.length) :
    (results fn tmps).run P w = .ok (.agg cs.toArray) w := by
  have hp' : tmps[p]?.getD undef = .pointer (some ⟨b, 0, none⟩) := by simpa using hp
  simp [results, h, hp', asAddr, run_loadVar_mid w b 0 ty cs d hc hu hd hi]
theorem wn_wrap (x : Wd) : IntKind.u32.wrap (wn x) = wn x := by
  have := wn_nn x
  have := wn_lt x
  rw [IntKind.wrap_u32']; omega
theorem info8W : (Tryd.prog.info? 43).map (·.size) = some 8 := by kernel_rfl
theorem info64W : (Tryd.prog.info? 52).map (·.size) = some 64 := by kernel_rfl
set_option maxHeartbeats 4000000 in
theorem refStart_any (w : World) : Calls Tryd.prog 23 #[] w fun e w' => e = .returned (.agg (aw start.w 8).toArray) ∧ Below w.heap.size w w' := by
  go_enter Tryd.func23, Tryd.ntmps23
  go_wp2_with fail
  refine bodyPost_ret (results_cell_row Tryd.results23 _ _ w.heap.size _ _ _ _ rfl (heap_alloc_new w _) Tryd.underlying43 rfl info8W) rfl ⟨?_, K.alloc (Below.refl _ _) _⟩
  kernel_rfl
set_option maxRecDepth 100000 in
set_option maxHeartbeats 8000000 in
theorem refK_any (w : World) : Calls Tryd.prog 31 #[] w fun e w' => e = .returned (.agg (aw kW 64).toArray) ∧ Below w.heap.size w w' := by
  go_enter Tryd.func31, Tryd.ntmps31
  go_upto_region 1 with fail
  go_wp2_with (first
    | (refine wpList_build rfl 52 _ rfl (aw kW 64).toArray (by kernel_rfl) ?_)
    | (refine wpList_store_new rfl 52 _ _ rfl _ (aw kW 64).toArray rfl rfl info64W (by kernel_rfl) (by kernel_rfl) ?_))
  refine bodyPost_ret (results_cell_row Tryd.results31 _ _ w.heap.size _ _ _ _ rfl (heap_alloc_new w _) Tryd.underlying52 rfl info64W) rfl ⟨rfl, K.alloc (Below.refl _ _) _⟩
end Go.Proofs.YteplklbpehkdjaaDoor
