/- Rows of bytes in memory. Rows of bytes that may grow. Bytes that are handed in, and bytes that are appended to a row of one's own (no function of the program is named). Regions that keep to the text's order, operation by operation: calls whose answers are not told ahead; the states are then told over the world behind the call. Walks by states, in the text's order: a call that answers a slice that it made, and bytes appended to none, with whatever room behind them. Bytes of numbers. Walks by states: bytes in states, remainders, and answers that are slices. What the program's own PutLittle answers. Square roots modulo the second prime, and the points of the second curve by their bytes. The bytes of the number that a point's bytes are. Walks by states: bits of bytes and words. What the program's own Encode of layer 9 answers. What the document's own Add answers, for all numbers: the same as limb.Add. What the document's own Sub answers, for all numbers: the same as limb.Sub. What the document's own Less answers, for all numbers. What the document's own Modulus and plus answer. -/
import Derived.Test.YtolehamdaceikabDoorM19
import Derived.Test.YtolehamdaceikabDoorM01
import Derived.Test.YtolehamdaceikabDoorM02
import Derived.Test.YtolehamdaceikabDoorM03
import Derived.Deep.AppendLies
import Derived.OwnWalk
import Derived.Deep.LoopGhost
import Derived.Deep.DeepCutAuto
import Derived.Deep.RegionWith
namespace Go.Proofs.YtolehamdaceikabDoor
open Go.RowKit

/-- n bytes lie from an address on. -/
structure Rd (w : World) (b o n : Nat) (f : Nat → Int) : Prop where
  c : ∀ i, i < n → w.cell? ⟨b, o + i, none⟩ = some (.int .u8 (f i))
/-- A row of n bytes of its own, that may be written. -/
structure Row8 (w : World) (b n : Nat) (f : Nat → Int) : Prop where
  lt : b < w.heap.size
  c : ∀ i, i < n → w.cell? ⟨b, i, none⟩ = some (.int .u8 (f i))
  z : ∀ i, i < n → w.frozen? ⟨b, i, none⟩ = false
theorem Rd.keep {W w1 : World} {b o n : Nat} {f : Nat → Int} (h : Rd W b o n f) (hb : Below W.heap.size W w1) : Rd w1 b o n f :=
  ⟨fun i hi => later hb (h.c i hi)⟩
theorem Rd.part {w : World} {b o n : Nat} {f : Nat → Int} (h : Rd w b o n f) (k m : Nat) (hk : k + m ≤ n) : Rd w b (o + k) m (fun i => f (k + i)) :=
  ⟨fun i hi => by have := h.c (k + i) (by omega); rwa [← Nat.add_assoc] at this⟩
theorem Rd.congr {w : World} {b o n : Nat} {f g : Nat → Int} (h : Rd w b o n f) (e : ∀ i, i < n → f i = g i) : Rd w b o n g :=
  ⟨fun i hi => by rw [← e i hi]; exact h.c i hi⟩
theorem Row8.keep {W w1 : World} {b n : Nat} {f : Nat → Int} (h : Row8 W b n f) (hb : Below W.heap.size W w1) : Row8 w1 b n f :=
  ⟨Nat.lt_of_lt_of_le h.lt hb.size, fun i hi => later hb (h.c i hi), fun i hi => (hb.frozen (p := ⟨b, i, none⟩) h.lt).trans (h.z i hi)⟩
theorem Row8.rd {w : World} {b n : Nat} {f : Nat → Int} (h : Row8 w b n f) : Rd w b 0 n f := ⟨fun i hi => by rw [Nat.zero_add]; exact h.c i hi⟩
theorem Row8.congr {w : World} {b n : Nat} {f g : Nat → Int} (h : Row8 w b n f) (e : ∀ i, i < n → f i = g i) : Row8 w b n g :=
  ⟨h.lt, fun i hi => by rw [← e i hi]; exact h.c i hi, h.z⟩
theorem Row8.store {w : World} {b n : Nat} {f : Nat → Int} (h : Row8 w b n f) (k : Nat) (hk : k < n) (v : Int) : Row8 (w.setCell ⟨b, k, none⟩ (.int .u8 v)) b n (fun i => if i = k then v else f i) := by
  refine ⟨by simpa using h.lt, fun i hi => ?_, fun i hi => by rw [World.frozen?_setCell]; exact h.z i hi⟩
  have hc := h.c i hi
  have hcs := h.c k hk
  by_cases e : i = k
  · subst e; simp [go_sem, hc]
  · simp [go_sem, hc, e]
end Go.Proofs.YtolehamdaceikabDoor
namespace Go.Proofs.YtolehamdaceikabDoor
open Go.RowKit

theorem info8 : (Tryd.prog.info? 5).map (fun i => (i.zero, i.size, i.bytes)) = some (some (.int .u8 0), 1, 1) := by kernel_rfl
def cells8 (l : List Nat) : List Value := l.map (fun (x : Nat) => Value.int .u8 (x : Int))
theorem own_keep {w w' : World} {base n : Nat} {v : Value} {xs : List Value} (h : w.ownsRow base 5 1 v n xs) (hb : Below w.heap.size w w') : w'.ownsRow base 5 1 v n xs := by
  refine ⟨h.1, ?_⟩
  rcases h.2 with h0 | ⟨g, cap, cur, rfl, hg, hh, h1, h2, h3, h4⟩
  · exact Or.inl h0
  · exact Or.inr ⟨g, cap, cur, rfl, hg, by rw [hb.block g (h.lt g rfl).2]; exact hh, h1, h2, h3, h4⟩

theorem own_shape {w : World} {base n : Nat} {v : Value} {xs : List Value} (h : w.ownsRow base 5 1 v n xs) : ∃ a cap, v = .slice a n cap := by
  rcases h.2 with ⟨rfl, rfl⟩ | ⟨g, cap, cur, rfl, _⟩
  · exact ⟨_, _, rfl⟩
  · exact ⟨_, _, rfl⟩
theorem own_rd {w : World} {base n : Nat} {v : Value} {f : Nat → Int} {xs : List Value} (h : w.ownsRow base 5 1 v n xs) (hx : ∀ j, j < n → xs[j]? = some (.int .u8 (f j))) (hn : 0 < n) : ∃ g cap, v = .slice (some ⟨g, 0, none⟩) n cap ∧ base ≤ g ∧ Row8 w g n f := by
  rcases h.2 with ⟨_, h0⟩ | ⟨g, cap, cur, rfl, hg, _⟩
  · omega
  · refine ⟨g, cap, rfl, hg, (h.lt g rfl).2, fun j hj => ?_, fun j _ => h.frozenAt j⟩
    rw [h.cellAt j (by omega)]; exact hx j hj
theorem own_cap {w : World} {base n g cap : Nat} {xs : List Value} (h : w.ownsRow base 5 1 (.slice (some ⟨g, 0, none⟩) n cap) n xs) : n ≤ cap := by
  rcases h.2 with ⟨h1, _⟩ | ⟨g', cap', cur, h1, _, _, hle, _⟩
  · cases h1
  · cases h1; exact hle


theorem cells8_at (l : List Nat) (i : Nat) (h : i < l.length) : (cells8 l)[i]? = some (Value.int .u8 ((l.getD i 0 : Nat) : Int)) := by
  simp [cells8, h]
theorem getD_lt {l : List Nat} (h : ∀ x ∈ l, x < 256) (i : Nat) : l.getD i 0 < 256 := by
  rw [List.getD_eq_getElem?_getD]
  by_cases hi : i < l.length
  · rw [List.getElem?_eq_getElem hi]; exact h _ (List.getElem_mem hi)
  · rw [List.getElem?_eq_none (by omega)]; simp
theorem Rd.first {w : World} {b o n : Nat} {f : Nat → Int} (h : Rd w b o n f) (m : Nat) (hm : m ≤ n) : Rd w b o m f := ⟨fun i hi => h.c i (by omega)⟩
/-- A text's bytes, laid anew. -/
theorem rd_bytes (w : World) (s : ByteArray) (c : Nat) (z : Nat × Nat) : Rd (w.drew.alloc (.cells (bytesRow s c) 5 z)) w.heap.size 0 s.size (fun i => ((s.data.toList.getD i 0).toNat : Int)) := by
  refine ⟨fun i hi => ?_⟩
  have hb := bytesRow_at s c i hi
  have hh : (w.drew.alloc (.cells (bytesRow s c) 5 z)).heap[w.heap.size]? = some (.cells (bytesRow s c) 5 z) := by
    show (w.heap.push (.cells (bytesRow s c) 5 z))[w.heap.size]? = _
    simp
  have hg : s.data.toList.getD i 0 = s.data[i] := by
    rw [List.getD_eq_getElem?_getD, List.getElem?_eq_getElem (by simpa using hi)]
    rfl
  rw [Nat.zero_add, hg, ← hb]
  unfold World.cell?
  dsimp only
  rw [hh]
  first | rfl | simp
end Go.Proofs.YtolehamdaceikabDoor
namespace Go.Proofs.YtolehamdaceikabDoor
open Go.RowKit

/-- Some bytes: none, or n from an address on. -/
structure BA (w : World) (a : Option Addr) (n : Nat) (f : Nat → Nat) : Prop where
  lt : ∀ i, f i < 256
  at_ : n = 0 ∨ ∃ b o, a = some ⟨b, o, none⟩ ∧ Rd w b o n (fun i => ((f i : Nat) : Int))
theorem BA.keep {W w1 : World} {a : Option Addr} {n : Nat} {f : Nat → Nat} (h : BA W a n f) (hb : Below W.heap.size W w1) : BA w1 a n f :=
  ⟨h.lt, h.at_.elim Or.inl fun ⟨b, o, e, hr⟩ => Or.inr ⟨b, o, e, hr.keep hb⟩⟩
/-- The first n bytes of f, as a list. -/
def fl (f : Nat → Nat) (n : Nat) : List Nat := (List.range n).map f
theorem fl_len (f : Nat → Nat) (n : Nat) : (fl f n).length = n := by simp [fl]
theorem fl_at (f : Nat → Nat) {n i : Nat} (h : i < n) : (fl f n)[i]? = some (f i) := by simp [fl, h]
theorem fl_lt {f : Nat → Nat} (hf : ∀ i, f i < 256) (n : Nat) : ∀ x ∈ fl f n, x < 256 := by
  intro x hx
  simp only [fl, List.mem_map] at hx
  obtain ⟨i, _, rfl⟩ := hx
  exact hf i
theorem cells8_len (l : List Nat) : (cells8 l).length = l.length := by simp [cells8]
theorem cells8_one (l : List Nat) : ∀ u ∈ cells8 l, u.oneCell' = true := by
  intro u hu
  simp only [cells8, List.mem_map] at hu
  obtain ⟨i, _, rfl⟩ := hu
  rfl
theorem run_append_zero {P : Program} (w : World) (base : Nat) (t ty e : TypeId) (i : TypeInfo) (size : Nat) (ht : P.underlying t = some (.slice e)) (hi : P.info? e = some i)
    (v : Value) (n : Nat) (xs : List Value) (hown : w.ownsRow base e size v n xs) (x : Option Addr) (c : Nat) :
    (Builtin.append_ #[t, t] ty #[v, .slice x 0 c]).run P w = .ok v w := by
  rcases hown.2 with ⟨rfl, rfl⟩ | ⟨g, cap, cur, rfl, _, _, hnc, _⟩
  · cases x <;> simp [Builtin.append_, run_underlying ht, sizeOf, typeInfo, hi, Builtin.lenOf, Builtin.firstCells, loadCells, loadCellsFrom]
  · cases x <;> simp [Builtin.append_, run_underlying ht, sizeOf, typeInfo, hi, Builtin.lenOf, Builtin.firstCells, hnc, storeCells, loadCells, loadCellsFrom]
/-- Bytes that are appended to a row of one's own. -/
theorem run_app {W : World} {base : Nat} {v : Value} {n : Nat} {l : List Nat} (hown : W.ownsRow base 5 1 v n (cells8 l)) {x : Option Addr} {m c : Nat} {f : Nat → Nat} (hx : BA W x m f) (hb : n + m ≤ 1000000) (hbase : base ≤ W.heap.size) (ty : TypeId) :
    ∃ v' w', (Builtin.append_ #[34, 34] ty #[v, .slice x m c]).run Tryd.prog W = .ok v' w' ∧ w'.ownsRow base 5 1 v' (n + m) (cells8 (l ++ fl f m)) ∧ W.grownBy w' v.ownBlock := by
  obtain ⟨i0, hi, hz0, hz1, hz2⟩ := info_parts info8
  rcases hx.at_ with rfl | ⟨b, o, rfl, hr⟩
  · refine ⟨v, W, run_append_zero W base _ _ 5 i0 1 Tryd.underlying34 hi v n _ hown x c, ?_, World.grownBy.refl _ _⟩
    rw [show fl f 0 = [] from rfl, List.append_nil]
    exact hown
  · obtain ⟨v', w', h1, h2, h3, _⟩ := run_append_own (P := Tryd.prog) W base 34 ty 5 i0 (.int .u8 0) 1 1 Tryd.underlying34 hi hz0 hz1 hz2 rfl (by decide) v n _ hown ⟨b, o, none⟩ m c (cells8 (fl f m)) (by rw [cells8_len, fl_len]; omega) (fun j u hu => by
      have hj : j < m := by
        rcases Nat.lt_or_ge j m with h' | h'
        · exact h'
        · rw [List.getElem?_eq_none (by rw [cells8_len, fl_len]; exact h')] at hu; cases hu
      have hc := hr.c j hj
      rw [cells8_at _ j (by rw [fl_len]; exact hj), List.getD_eq_getElem?_getD, fl_at f hj] at hu
      have ea : (⟨b, o, none⟩ : Addr).add j = ⟨b, o + j, none⟩ := by unfold Addr.add; split <;> simp_all
      rw [ea, hc]
      simpa using hu) (cells8_one _) (by unfold maxLen; omega) (by omega) hbase
    refine ⟨v', w', h1, ?_, h3⟩
    rw [show cells8 (l ++ fl f m) = cells8 l ++ cells8 (fl f m) from List.map_append]
    exact h2
/-- The same, at a step of a region that draws its order. -/
theorem step_app {W : World} {ops : Array Oper} {op : Oper} {a : Act} {K : Act → World → Prop} {Q : Exit → Act → World → Prop} {E : Prop} (hgd : op.guard = none) (s x : Operand)
    (ho : op.op = .call { callee := .builtin .append, args := #[s, x], argTypes := #[34, 34] })
    {base : Nat} {v : Value} {n : Nat} {l : List Nat} (hs : a.eval s = v) (hown : W.ownsRow base 5 1 v n (cells8 l)) {y : Option Addr} {m c : Nat} {f : Nat → Nat} (hx : a.eval x = .slice y m c) (hy : BA W y m f) (hb : n + m ≤ 1000000) (hbase : base ≤ W.heap.size)
    (h : ∀ v' w', w'.ownsRow base 5 1 v' (n + m) (cells8 (l ++ fl f m)) → W.grownBy w' v.ownBlock → K (a.put op.dst v') w') :
    if Region.wanted op (yielded ops a.tmps) = true then Oper.wp Tryd.prog op a W K Q else E := by
  have hw : Region.wanted op (yielded ops a.tmps) = true := by simp [Region.wanted, hgd]
  rw [if_pos hw]
  obtain ⟨v', w', hr, h2, h3⟩ := run_app (c := c) hown hy hb hbase op.type
  unfold Oper.wp execOp
  simp only [ho, resolve, invoke, builtin, Sem.run_bind, Sem.run_pure, Result.andThen_ok, List.map_toArray, List.map_cons, List.map_nil, hs, hx, hr]
  exact h v' w' h2 h3
theorem below_append {w0 w w' : World} {v : Value} {n : Nat} {xs : List Value} (h : Below w0.heap.size w0 w) (ho : w.ownsRow w0.heap.size 5 1 v n xs) (hg : w.grownBy w' v.ownBlock) : Below w0.heap.size w0 w' :=
  h.grown hg h.size (fun k hk => (ho.lt k hk).1)
theorem own_empty (w : World) (base : Nat) (hb : base ≤ w.heap.size) : (w.alloc (.cells #[] 5)).ownsRow base 5 1 (.slice (some ⟨w.heap.size, 0, none⟩) 0 0) 0 (cells8 []) :=
  World.ownsRow_made w #[] 0 hb (by decide) rfl
/-- The same, at a plain region's list. -/
theorem wpList_app {W : World} {ops : Array Oper} {rest : List Oper} {op : Oper} {a : Act} {Q : Exit → Act → World → Prop} (hgd : op.guard = none) (s x : Operand)
    (ho : op.op = .call { callee := .builtin .append, args := #[s, x], argTypes := #[34, 34] })
    {base : Nat} {v : Value} {n : Nat} {l : List Nat} (hs : a.eval s = v) (hown : W.ownsRow base 5 1 v n (cells8 l)) {y : Option Addr} {m c : Nat} {f : Nat → Nat} (hx : a.eval x = .slice y m c) (hy : BA W y m f) (hb : n + m ≤ 1000000) (hbase : base ≤ W.heap.size)
    (h : ∀ v' w', w'.ownsRow base 5 1 v' (n + m) (cells8 (l ++ fl f m)) → W.grownBy w' v.ownBlock → wpList Tryd.prog ops Q rest (a.put op.dst v') w') : wpList Tryd.prog ops Q (op :: rest) a W := by
  refine wpList_plain hgd fun K hK => ?_
  obtain ⟨v', w', hr, h2, h3⟩ := run_app (c := c) hown hy hb hbase op.type
  unfold Oper.wp execOp
  simp only [ho, resolve, invoke, builtin, Sem.run_bind, Sem.run_pure, Result.andThen_ok, List.map_toArray, List.map_cons, List.map_nil, hs, hx, hr]
  exact hK _ _ (h v' w' h2 h3)
/-- One byte that was laid in a block of its own. -/
theorem one_made (w : World) (x : Nat) (h : x < 256) : BA (w.alloc (.cells #[.int .u8 (x : Int)] 5)) (some ⟨w.heap.size, 0, none⟩) 1 (fun _ => x) :=
  ⟨fun _ => h, Or.inr ⟨_, _, rfl, ⟨fun i hi => by
    obtain rfl : i = 0 := by omega
    rw [cell_of_row _ _ _ _ _ _ (heap_alloc_new w _)]; rfl⟩⟩⟩
end Go.Proofs.YtolehamdaceikabDoor
namespace Go.Proofs.YtolehamdaceikabDoor
open Go.RowKit

def seqFrom : Nat → List Oper → Bool
  | _, [] => true
  | k, o :: os => lessAll k (deps o) && seqFrom (k + 1) os
theorem seq_spec : ∀ {k : Nat} {os : List Oper}, seqFrom k os = true → ∀ j o, os[j]? = some o → ∀ d ∈ deps o, d < k + j
  | k, [], _, j, o, ho, _, _ => by simp at ho
  | k, o' :: os, h, j, o, ho, d, hd => by
    simp only [seqFrom, Bool.and_eq_true] at h
    cases j with
    | zero =>
      simp at ho
      subst ho
      exact lessAll_spec h.1 d hd
    | succ j =>
      have := seq_spec h.2 j o (by simpa using ho) d hd
      omega
theorem up_seq {ops : Array Oper} {i : Nat} {o : Oper} (hs : seqFrom 0 ops.toList = true) (ho : ops[i]? = some o) : Up ops i o (fun j => decide (j < i)) := by
  refine ⟨by simp, fun j hj => ?_, fun k ok hk hLk j hj => ?_⟩
  · have := seq_spec hs i o (by simpa using ho) j hj
    simp; omega
  · have := seq_spec hs k ok (by simpa using hk) j hj
    simp only [decide_eq_true_eq] at hLk ⊢
    omega
section
variable {P : Program} {W : Bs} {n : Nat} {ops : Array Oper} {i : Nat} {o : Oper} {σ σ' : SS} {Q : Exit → Act → World → Prop} {rest : List Nat} {a : Act} {w : World}
theorem sq_begin {id : Nat} (l : List Nat) (hl : List.range ops.size = l) (h : wpOps P ops Q l a w) : (Code.region id ops false).wp P Q a w := wp_region (by rw [hl]; exact h)
theorem sq_end (h : Q .normal a w) : wpOps P ops Q [] a w := h
theorem sq_step (h : Rp W n σ a w) (ho : ops[i]? = some o) (hg : GStep P W n ops o σ σ') (hk : ∀ a w, Rp W n σ' a w → wpOps P ops Q rest a w) : wpOps P ops Q (i :: rest) a w := by
  rw [wpOps_cons]
  refine wpOp_step ho (fun K' hK => ?_)
  have g := hg a w Q h
  split
  · rename_i hw
    rw [if_pos hw] at g
    exact Oper.wp_mono (fun a' w' hR' => hK a' w' (hk a' w' hR')) g
  · rename_i hw
    rw [if_neg hw] at g
    exact hK _ _ (hk _ _ g)
end
/-- The world behind a call takes the place of the one at the beginning: what was made before the call may be written, what it made may not. -/
def Bs.re (W : Bs) (w w' : World) : Bs := ⟨w', fun k => W.X k || (Nat.ble W.w.heap.size k && Nat.blt k w.heap.size)⟩
theorem re_kp {W : Bs} {w w' w2 : World} (h1 : W.kp w') (h : (W.re w w').kp w2) : W.kp w2 := by
  have h1 : Kp W.X W.w w' := h1
  have h : Kp (fun k => W.X k || (Nat.ble W.w.heap.size k && Nat.blt k w.heap.size)) w' w2 := h
  refine ⟨h.os.trans h1.os, h.tape.trans h1.tape, h.output.trans h1.output, Nat.le_trans h1.size h.size, fun k hk hx => ?_⟩
  rw [h.block k (Nat.lt_of_lt_of_le hk h1.size) (by
    have : Nat.ble W.w.heap.size k = false := by
      cases hb : Nat.ble W.w.heap.size k with
      | false => rfl
      | true => have := Nat.le_of_ble_eq_true hb; omega
    simp only [hx, this, Bool.false_and, Bool.or_false])]
  exact h1.block k hk hx
/-- Blocks that the call made are kept. -/
theorem re_new {W : Bs} {w w' : World} (hX : ∀ k, W.X k = true → k < W.w.heap.size) (hs : W.w.heap.size ≤ w.heap.size) {g : Nat} (hg : w.heap.size ≤ g) : (W.re w w').X g = false := by
  show (W.X g || (Nat.ble W.w.heap.size g && Nat.blt g w.heap.size)) = false
  have h1 : W.X g = false := by
    cases h : W.X g with
    | false => rfl
    | true => have := hX g h; omega
  have h2 : Nat.blt g w.heap.size = false := by
    cases h : Nat.blt g w.heap.size with
    | false => rfl
    | true => have := Nat.blt_eq ▸ h; omega
  rw [h1, h2, Bool.and_false, Bool.or_false]
theorem re_X {W : Bs} {w w' : World} (hX : ∀ k, W.X k = true → k < W.w.heap.size) (hs : W.w.heap.size ≤ w.heap.size) (hs2 : w.heap.size ≤ w'.heap.size) : ∀ k, (W.re w w').X k = true → k < (W.re w w').w.heap.size := by
  intro k hk
  have hk : (W.X k || (Nat.ble W.w.heap.size k && Nat.blt k w.heap.size)) = true := hk
  show k < w'.heap.size
  rcases Bool.or_eq_true _ _ ▸ hk with h | h
  · have := hX k h; omega
  · have h2 : Nat.blt k w.heap.size = true := by
      cases hb : Nat.blt k w.heap.size with
      | true => rfl
      | false => rw [hb, Bool.and_false] at h; cases h
    have := (Nat.blt_eq ▸ h2 : k < w.heap.size)
    omega
theorem Rep.re {W : Bs} {n : Nat} {β : Nat → Nat} {σ : SS} {a : Act} {w w' : World} (h : Rep W n β σ a w) (hb : Below w.heap.size w w') : Rep (W.re w w') n β σ a w' := by
  have g := h.grow hb
  refine ⟨g.df, g.sz, g.sl, Kp.refl _ _, fun x cs hx => ?_, g.ne, g.pt⟩
  obtain ⟨h1, h2, _, _⟩ := h.va x cs hx
  obtain ⟨_, g2, g3, g4⟩ := g.va x cs hx
  refine ⟨Or.inr ?_, g2, g3, g4⟩
  show (W.X (β x) || (Nat.ble W.w.heap.size (β x) && Nat.blt (β x) w.heap.size)) = true
  rcases h1 with h1 | h1
  · have e1 : Nat.ble W.w.heap.size (β x) = true := Nat.ble_eq ▸ h1
    have e2 : Nat.blt (β x) w.heap.size = true := Nat.blt_eq ▸ h2
    rw [e1, e2]
    simp
  · rw [h1]
    rfl
section
variable {P : Program} {W : Bs} {n : Nat} {ops : Array Oper} {i : Nat} {o : Oper} {σ : SS} {Q : Exit → Act → World → Prop} {rest : List Nat} {a : Act} {w : World}
/-- A call that only makes memory; what it answers is told by R. -/
theorem sq_call (h : Rp W n σ a w) (HX : ∀ k, W.X k = true → k < W.w.heap.size) (ho : ops[i]? = some o) (hg : Gd ops n o σ) (dd : Nat) (hdd : o.dst = some dd) (F : Nat) (ar : Array Operand) (ts : Array TypeId) (hop : o.op = .call { callee := .value (.func F), args := ar, argTypes := ts }) (vs : List Value) (hx : ar.toList.map (σ.ev n) = vs.map (fun v => some (SV.val v))) (hE : ∀ w, (callFunc F vs.toArray).run P w = .ok (.enter F vs.toArray) w) (R : Value → World → World → Prop)
    (hC : W.kp w → Calls P F vs.toArray w fun e w' => ∃ r, e = .returned r ∧ R r w w' ∧ Below w.heap.size w w')
    (hk : ∀ (r : Value) (a' : Act) (w' : World) (W2 : Bs), R r w w' → (∀ w2, W2.kp w2 → W.kp w2) → (∀ k, w.heap.size ≤ k → W2.X k = false) → (∀ k, W2.X k = true → k < W2.w.heap.size) → W2.w = w' → Rp W2 n (σ.set (some dd) (.val r)) a' w' → wpOps P ops Q rest a' w') : wpOps P ops Q (i :: rest) a w := by
  obtain ⟨β, hr⟩ := h
  rw [wpOps_cons]
  refine wpOp_step ho (fun K' hK => ?_)
  have hw : Region.wanted o (yielded ops a.tmps) = true := by
    cases hgd : o.guard with
    | none => simp [Region.wanted, hgd]
    | some q =>
      obtain ⟨j, b⟩ := q
      have := yes_eq ⟨β, hr⟩ (hg j b hgd)
      simp [Region.wanted, hgd, this]
  rw [if_pos hw]
  have hf : a.eval (.func F) = .func (.func F) #[] #[] := rfl
  have key : ∀ (l : List Operand) (vs : List Value), l.map (σ.ev n) = vs.map (fun v => some (SV.val v)) → l.map a.eval = vs := by
    intro l
    induction l with
    | nil => intro vs h; cases vs with
      | nil => rfl
      | cons v vs => simp at h
    | cons x l ih => intro vs h; cases vs with
      | nil => simp at h
      | cons v vs =>
        simp only [List.map_cons, List.cons.injEq] at h ⊢
        exact ⟨hr.eval h.1, ih vs h.2⟩
  have hxs : ar.map a.eval = vs.toArray := Array.toList_inj.1 (by rw [Array.toList_map]; exact key ar.toList vs hx)
  unfold Oper.wp execOp
  simp only [hop, resolve, invoke, hf, Deferred.ofValue, hxs, Sem.run_bind, Sem.run_pure, Result.andThen_ok]
  rw [show (#[] ++ vs.toArray ++ #[] : Array Value) = vs.toArray by simp, hE, Oper.upon_enter]
  refine Calls.mono (hC hr.bl) ?_
  rintro e w' ⟨r, rfl, hR, hb⟩
  refine hK _ _ (hk r _ w' (W.re w w') hR (fun w2 h2 => re_kp (Kp.grow hr.bl hb) h2) (fun k hk => re_new HX (Kp.size hr.bl) hk) (re_X HX (Kp.size hr.bl) hb.size) rfl ⟨β, ?_⟩)
  have := (hr.re hb).put (some dd) (.val r) val_hp
  rw [hdd]
  exact this
theorem gq0 (h : o.guard = none) : Gd ops n o σ := fun j b e => by rw [h] at e; cases e
theorem gq1 (j : Nat) (b : Bool) (h : o.guard = some (j, b)) (hy : σ.yes ops n j = some b) : Gd ops n o σ := fun j' b' e => by rw [h] at e; cases e; exact hy
end
theorem Rd.kpx {X : Nat → Bool} {W w : World} {b o n : Nat} {f : Nat → Int} (hk : Kp X W w) (h : Rd W b o n f) (hx : X b = false) : Rd w b o n f :=
  ⟨fun i hi => by
    have hc := h.c i hi
    rw [Kp.cell hk (World.block_lt_of_cell? W _ hc) hx]
    exact hc⟩
theorem BA.kpx {X : Nat → Bool} {W w : World} {a : Option Addr} {n : Nat} {f : Nat → Nat} (hk : Kp X W w) (h : BA W a n f) (hx : ∀ p, a = some p → X p.block = false) : BA w a n f :=
  ⟨h.lt, h.at_.elim Or.inl fun ⟨b, o, e, hr⟩ => Or.inr ⟨b, o, e, hr.kpx hk (hx _ e)⟩⟩
theorem BA.re {W2 : Bs} {w' w2 : World} {a : Option Addr} {n : Nat} {f : Nat → Nat} (hw : W2.w = w') (h2 : W2.kp w2) (h : BA w' a n f) (hx : ∀ p, a = some p → W2.X p.block = false) : BA w2 a n f := by
  subst hw
  exact BA.kpx h2 h hx
end Go.Proofs.YtolehamdaceikabDoor
namespace Go.Proofs.YtolehamdaceikabDoor
open Go.RowKit

section
variable {P : Program} {W : Bs} {n : Nat} {ops : Array Oper} {i : Nat} {o : Oper} {σ : SS} {Q : Exit → Act → World → Prop} {rest : List Nat} {a : Act} {w : World}
theorem yes_wanted {β : Nat → Nat} (hr : Rep W n β σ a w) (hg : Gd ops n o σ) : Region.wanted o (yielded ops a.tmps) = true := by
  cases hgd : o.guard with
  | none => simp [Region.wanted, hgd]
  | some q =>
    obtain ⟨j, b⟩ := q
    have := yes_eq ⟨β, hr⟩ (hg j b hgd)
    simp [Region.wanted, hgd, this]
theorem sq_callN (h : Rp W n σ a w) (ho : ops[i]? = some o) (hg : Gd ops n o σ) (dd : Nat) (hdd : o.dst = some dd) (hn : σ.m dd = none) (F : Nat) (ar : Array Operand) (ts : Array TypeId) (hop : o.op = .call { callee := .value (.func F), args := ar, argTypes := ts }) (vs : List Value) (hx : ar.toList.map (σ.ev n) = vs.map (fun v => some (SV.val v))) (hE : ∀ w, (callFunc F vs.toArray).run P w = .ok (.enter F vs.toArray) w) (m : Nat) (cs : List Value)
    (hC : W.kp w → Calls P F vs.toArray w fun e w' => ∃ b c, e = .returned (.slice (some ⟨b, 0, none⟩) m c) ∧ m ≤ c ∧ w.heap.size ≤ b ∧ b < w'.heap.size ∧ w'.rangeAt b 0 cs ∧ w'.there b 0 cs.length ∧ Below w.heap.size w w')
    (hk : ∀ (c : Nat) (a' : Act) (w' : World), m ≤ c → Rp W n ((σ.var dd cs).set (some dd) (.sli dd 0 m c)) a' w' → wpOps P ops Q rest a' w') : wpOps P ops Q (i :: rest) a w := by
  obtain ⟨β, hr⟩ := h
  rw [wpOps_cons]
  refine wpOp_step ho (fun K' hK => ?_)
  rw [if_pos (yes_wanted hr hg)]
  have hf : a.eval (.func F) = .func (.func F) #[] #[] := rfl
  have key : ∀ (l : List Operand) (vs : List Value), l.map (σ.ev n) = vs.map (fun v => some (SV.val v)) → l.map a.eval = vs := by
    intro l
    induction l with
    | nil => intro vs h; cases vs with
      | nil => rfl
      | cons v vs => simp at h
    | cons x l ih => intro vs h; cases vs with
      | nil => simp at h
      | cons v vs =>
        simp only [List.map_cons, List.cons.injEq] at h ⊢
        exact ⟨hr.eval h.1, ih vs h.2⟩
  have hxs : ar.map a.eval = vs.toArray := Array.toList_inj.1 (by rw [Array.toList_map]; exact key ar.toList vs hx)
  unfold Oper.wp execOp
  simp only [hop, resolve, invoke, hf, Deferred.ofValue, hxs, Sem.run_bind, Sem.run_pure, Result.andThen_ok]
  rw [show (#[] ++ vs.toArray ++ #[] : Array Value) = vs.toArray by simp, hE, Oper.upon_enter]
  refine Calls.mono (hC hr.bl) ?_
  rintro e w' ⟨b, c, rfl, hc, h1, h2, h3, h4, hb⟩
  have g := hr.found hb dd hn b h1 h2 cs h3 h4 (some (m, c))
  have e : ((⟨undef, some (dd, 0), some (m, c)⟩ : SV).at fun y => if y = dd then b else β y) = .slice (some ⟨b, 0, none⟩) m c := by simp [SV.at]
  rw [e] at g
  rw [hdd]
  exact hK _ _ (hk c _ w' hc ⟨_, g⟩)
end
section
variable {W : Bs} {n : Nat} {ops : Array Oper} {i : Nat} {o : Oper} {σ : SS} {Q : Exit → Act → World → Prop} {rest : List Nat} {a : Act} {w : World}
theorem sq_app0 (h : Rp W n σ a w) (ho : ops[i]? = some o) (hg : Gd ops n o σ) (dd : Nat) (hdd : o.dst = some dd) (hn : σ.m dd = none) (s x : Operand) (hop : o.op = .call { callee := .builtin .append, args := #[s, x], argTypes := #[34, 34] }) (hs : σ.ev n s = some (.val (.slice none 0 0))) {y : Option Addr} {m c : Nat} (hx : σ.ev n x = some (.val (.slice y m c))) {f : Nat → Nat} (hy : W.kp w → BA w y m f) (h0 : 0 < m) (hm : m ≤ 1000) (cs : List Value) (hcs : cs = cells8 (fl f m))
    (hk : ∀ (c : Nat) (a' : Act) (w' : World), m ≤ c → Rp W n ((σ.var dd cs).set (some dd) (.sli dd 0 m c)) a' w' → wpOps Tryd.prog ops Q rest a' w') : wpOps Tryd.prog ops Q (i :: rest) a w := by
  obtain ⟨β, hr⟩ := h
  rw [wpOps_cons]
  refine wpOp_step ho (fun K' hK => ?_)
  rw [if_pos (yes_wanted hr hg)]
  obtain ⟨v', w', hrun, hO, hG⟩ := run_app (c := c) (base := w.heap.size) (n := 0) (l := []) (v := .slice none 0 0) (World.ownsRow_nil w w.heap.size 5 1 : w.ownsRow w.heap.size 5 1 (.slice none 0 0) 0 (cells8 [])) (hy hr.bl) (by omega) (Nat.le_refl _) o.type
  have e1 : a.eval s = .slice none 0 0 := hr.eval hs
  have e2 : a.eval x = .slice y m c := hr.eval hx
  unfold Oper.wp execOp
  simp only [hop, resolve, invoke, builtin, Sem.run_bind, Sem.run_pure, Result.andThen_ok, List.map_toArray, List.map_cons, List.map_nil, e1, e2, hrun]
  rw [Nat.zero_add, List.nil_append, ← hcs] at hO
  have hl : cs.length = m := by rw [hcs, cells8_len, fl_len]
  have hB : Below w.heap.size w w' := (Below.refl _ w).grown hG (Nat.le_refl _) (fun k hk => by cases hk)
  rcases hO.2 with ⟨_, h9⟩ | ⟨g, cap, cur, rfl, hge, _, hle, _⟩
  · omega
  · have q := hr.found hB dd hn g hge (hO.lt g rfl).2 cs (fun j v hj => by
      have hjm : j < m := by
        rcases Nat.lt_or_ge j m with h' | h'
        · exact h'
        · rw [List.getElem?_eq_none (by omega)] at hj; cases hj
      rw [Nat.zero_add, hO.cellAt j (by omega)]; exact hj) (fun j hj => by
      have hjm : j < m := by omega
      rw [Nat.zero_add]
      exact ⟨by rw [hO.cellAt j (by omega), List.getElem?_eq_getElem hj]; rfl, hO.frozenAt j⟩) (some (m, cap))
    have e : ((⟨undef, some (dd, 0), some (m, cap)⟩ : SV).at fun y => if y = dd then g else β y) = .slice (some ⟨g, 0, none⟩) m cap := by simp [SV.at]
    rw [e] at q
    show K' (a.put o.dst (.slice (some ⟨g, 0, none⟩) m cap)) w'
    rw [hdd]
    exact hK _ _ (hk cap _ w' hle ⟨_, q⟩)
end
end Go.Proofs.YtolehamdaceikabDoor
namespace Go.Proofs.YtolehamdaceikabDoor
open Go.RowKit

/-- The byte of a number that stands for 256^k. -/
def Y (k : Nat) (a : Int) : Int := a / 256 ^ k % 256
theorem Y_lo (k : Nat) (a : Int) : 0 ≤ Y k a := Int.emod_nonneg _ (by omega)
theorem Y_hi (k : Nat) (a : Int) : Y k a < 256 := Int.emod_lt_of_pos _ (by omega)
theorem B_pow (q : Nat) : B ^ q = 256 ^ (8 * q) := by rw [Int.pow_mul]; rfl
theorem byte_word (a : Int) (q r : Nat) (hr : r < 8) : L q a / 256 ^ r % 256 = Y (8 * q + r) a := by
  unfold L Y
  rw [Int.pow_add, ← B_pow, ← Int.ediv_ediv_of_nonneg (Int.le_of_lt (Bk_pos q))]
  generalize a / B ^ q = x
  unfold B
  match r, hr with
  | 0, _ => simp
  | 1, _ => simp; omega
  | 2, _ => simp; omega
  | 3, _ => simp; omega
  | 4, _ => simp; omega
  | 5, _ => simp; omega
  | 6, _ => simp; omega
  | 7, _ => simp; omega
  | n + 8, h => omega

/-- The number of r bytes from place o on, the least first. -/
def E (f : Nat → Int) (o : Nat) : Nat → Int
  | 0 => 0
  | r + 1 => E f o r + f (o + r) * 256 ^ r
theorem E_bd {f : Nat → Int} (hf : ∀ i, 0 ≤ f i ∧ f i < 256) (o : Nat) : ∀ r, 0 ≤ E f o r ∧ E f o r < 256 ^ r
  | 0 => by simp [E]
  | r + 1 => by
    have h := E_bd hf o r
    have hp : (0 : Int) < 256 ^ r := Int.pow_pos (by omega)
    have h1 := (hf (o + r)).1
    have h2 : f (o + r) * 256 ^ r ≤ 255 * 256 ^ r := Int.mul_le_mul_of_nonneg_right (by have := (hf (o + r)).2; omega) (Int.le_of_lt hp)
    have h3 : 0 ≤ f (o + r) * 256 ^ r := Int.mul_nonneg h1 (Int.le_of_lt hp)
    simp only [E, Int.pow_succ]
    omega
theorem E_word (a : Int) (j : Nat) : E (fun i => Y i a) (8 * j) 8 = L j a := by
  have h1 := L_lo j a
  have h2 := L_hi j a
  simp only [E, ← byte_word a j _ (show 0 < 8 by omega), ← byte_word a j _ (show 1 < 8 by omega), ← byte_word a j _ (show 2 < 8 by omega), ← byte_word a j _ (show 3 < 8 by omega), ← byte_word a j _ (show 4 < 8 by omega), ← byte_word a j _ (show 5 < 8 by omega), ← byte_word a j _ (show 6 < 8 by omega), ← byte_word a j _ (show 7 < 8 by omega)]
  generalize L j a = x at *
  simp
  omega
theorem E_congr {f g : Nat → Int} (o : Nat) : ∀ r, (∀ i, i < r → f (o + i) = g (o + i)) → E f o r = E g o r
  | 0, _ => rfl
  | r + 1, h => by simp only [E]; rw [E_congr o r (fun i hi => h i (by omega)), h r (by omega)]

end Go.Proofs.YtolehamdaceikabDoor
namespace Go.Proofs.YtolehamdaceikabDoor
open Go.RowKit

theorem i_rem {P : Program} (ty : TypeId) (k : IntKind) (a b c : Int) (ha : 0 ≤ a) (hb : 0 < b) (hc : c = a % b) (w : World) : (binOp .rem ty (.int k a) (.int k b)).run P w = .ok (.int k c) w := by
  have e : a.tmod b = c := by rw [hc, Int.tmod_eq_emod_of_nonneg ha]
  have hb0 : b ≠ 0 := by omega
  simp [binOp, Op.intDiv, hb0, e]
theorem i_addB {P : Program} (ty : TypeId) (a b c : Int) (hc : c = a + b) (h : 0 ≤ c ∧ c < 256) (w : World) : (binOp .add ty (.int .u8 a) (.int .u8 b)).run P w = .ok (.int .u8 c) w := by
  have e : IntKind.u8.wrap (a + b) = c := by
    rw [← hc]
    simp only [IntKind.wrap, IntKind.bits, IntKind.signed]
    simp
    omega
  simp [binOp, Op.intArith, e]
theorem wrapB {c : Int} (h : 0 ≤ c ∧ c < 256) : IntKind.u8.wrap c = c := by
  simp only [IntKind.wrap, IntKind.bits, IntKind.signed]
  simp
  omega
theorem wrapW {c : Int} (h : 0 ≤ c ∧ c < 18446744073709551616) : IntKind.u64.wrap c = c := by
  simp only [IntKind.wrap, IntKind.bits, IntKind.signed]
  simp
  omega
/-- A word of a number (walks by states bind L). -/
abbrev lw (i : Nat) (x : Int) : Int := L i x
/-- 32 bytes, as they lie in memory. -/
def by32 (f : Nat → Int) : List Value := [.int .u8 (f 0), .int .u8 (f 1), .int .u8 (f 2), .int .u8 (f 3), .int .u8 (f 4), .int .u8 (f 5), .int .u8 (f 6), .int .u8 (f 7), .int .u8 (f 8), .int .u8 (f 9), .int .u8 (f 10), .int .u8 (f 11), .int .u8 (f 12), .int .u8 (f 13), .int .u8 (f 14), .int .u8 (f 15), .int .u8 (f 16), .int .u8 (f 17), .int .u8 (f 18), .int .u8 (f 19), .int .u8 (f 20), .int .u8 (f 21), .int .u8 (f 22), .int .u8 (f 23), .int .u8 (f 24), .int .u8 (f 25), .int .u8 (f 26), .int .u8 (f 27), .int .u8 (f 28), .int .u8 (f 29), .int .u8 (f 30), .int .u8 (f 31)]
/-- The same, with another last one. -/
def by31 (f : Nat → Int) (x : Int) : List Value := [.int .u8 (f 0), .int .u8 (f 1), .int .u8 (f 2), .int .u8 (f 3), .int .u8 (f 4), .int .u8 (f 5), .int .u8 (f 6), .int .u8 (f 7), .int .u8 (f 8), .int .u8 (f 9), .int .u8 (f 10), .int .u8 (f 11), .int .u8 (f 12), .int .u8 (f 13), .int .u8 (f 14), .int .u8 (f 15), .int .u8 (f 16), .int .u8 (f 17), .int .u8 (f 18), .int .u8 (f 19), .int .u8 (f 20), .int .u8 (f 21), .int .u8 (f 22), .int .u8 (f 23), .int .u8 (f 24), .int .u8 (f 25), .int .u8 (f 26), .int .u8 (f 27), .int .u8 (f 28), .int .u8 (f 29), .int .u8 (f 30), .int .u8 x]
theorem by32_at (f : Nat → Int) : ∀ i, i < 32 → (by32 f)[i]? = some (.int .u8 (f i)) := by
  intro i hi
  match i, hi with
  | 0, _ => rfl
  | 1, _ => rfl
  | 2, _ => rfl
  | 3, _ => rfl
  | 4, _ => rfl
  | 5, _ => rfl
  | 6, _ => rfl
  | 7, _ => rfl
  | 8, _ => rfl
  | 9, _ => rfl
  | 10, _ => rfl
  | 11, _ => rfl
  | 12, _ => rfl
  | 13, _ => rfl
  | 14, _ => rfl
  | 15, _ => rfl
  | 16, _ => rfl
  | 17, _ => rfl
  | 18, _ => rfl
  | 19, _ => rfl
  | 20, _ => rfl
  | 21, _ => rfl
  | 22, _ => rfl
  | 23, _ => rfl
  | 24, _ => rfl
  | 25, _ => rfl
  | 26, _ => rfl
  | 27, _ => rfl
  | 28, _ => rfl
  | 29, _ => rfl
  | 30, _ => rfl
  | 31, _ => rfl
  | n + 32, h => omega
theorem by32_len (f : Nat → Int) : (by32 f).length = 32 := rfl
theorem by32_ext {f g : Nat → Int} (h : ∀ i, i < 32 → f i = g i) : by32 f = by32 g := by
  unfold by32
  rw [h 0 (by decide), h 1 (by decide), h 2 (by decide), h 3 (by decide), h 4 (by decide), h 5 (by decide), h 6 (by decide), h 7 (by decide), h 8 (by decide), h 9 (by decide), h 10 (by decide), h 11 (by decide), h 12 (by decide), h 13 (by decide), h 14 (by decide), h 15 (by decide), h 16 (by decide), h 17 (by decide), h 18 (by decide), h 19 (by decide), h 20 (by decide), h 21 (by decide), h 22 (by decide), h 23 (by decide), h 24 (by decide), h 25 (by decide), h 26 (by decide), h 27 (by decide), h 28 (by decide), h 29 (by decide), h 30 (by decide), h 31 (by decide)]
theorem by31_ext {f g : Nat → Int} {x : Int} (h : ∀ i, i < 31 → f i = g i) (hx : x = g 31) : by31 f x = by32 g := by
  unfold by32 by31
  rw [h 0 (by decide), h 1 (by decide), h 2 (by decide), h 3 (by decide), h 4 (by decide), h 5 (by decide), h 6 (by decide), h 7 (by decide), h 8 (by decide), h 9 (by decide), h 10 (by decide), h 11 (by decide), h 12 (by decide), h 13 (by decide), h 14 (by decide), h 15 (by decide), h 16 (by decide), h 17 (by decide), h 18 (by decide), h 19 (by decide), h 20 (by decide), h 21 (by decide), h 22 (by decide), h 23 (by decide), h 24 (by decide), h 25 (by decide), h 26 (by decide), h 27 (by decide), h 28 (by decide), h 29 (by decide), h 30 (by decide), hx]
theorem rd_by {w : World} {b : Nat} {f : Nat → Int} (h : w.rangeAt b 0 (by32 f)) : Rd w b 0 32 f := ⟨fun i hi => h i _ (by32_at f i hi)⟩
/-- A slice that a function has made, of 32 bytes. -/
def New32 (f : Nat → Int) (w : World) (e : Ending) (w' : World) : Prop := ∃ b c, e = .returned (.slice (some ⟨b, 0, none⟩) 32 c) ∧ 32 ≤ c ∧ w.heap.size ≤ b ∧ b < w'.heap.size ∧ w'.rangeAt b 0 (by32 f) ∧ w'.there b 0 32 ∧ Below w.heap.size w w'
theorem New32.congr {f g : Nat → Int} {w w' : World} {e : Ending} (h : New32 f w e w') (q : ∀ i, i < 32 → f i = g i) : New32 g w e w' := by
  unfold New32 at *
  rw [← by32_ext q]
  exact h
theorem new32_row {f : Nat → Int} {w w' : World} {e : Ending} {g cap : Nat} (he : e = .returned (.slice (some ⟨g, 0, none⟩) 32 cap)) (hg : w.heap.size ≤ g) (hc : 32 ≤ cap) (hr : Row8 w' g 32 f) (hb : Below w.heap.size w w') : New32 f w e w' :=
  ⟨g, cap, he, hc, hg, hr.lt, fun j v hj => by
    have hl : j < 32 := by
      rcases Nat.lt_or_ge j 32 with h | h
      · exact h
      · rw [List.getElem?_eq_none (by rw [by32_len]; exact h)] at hj; cases hj
    rw [Nat.zero_add, hr.c j hl, ← by32_at f j hl]; exact hj, fun j hj => by
    rw [Nat.zero_add]
    exact ⟨by rw [hr.c j hj]; rfl, hr.z j hj⟩, hb⟩
/-- An answer that is a slice of a variable. -/
theorem ret_new32 {P : Program} {w0 : World} {n : Nat} {σ : SS} {a : Act} {w : World} {fn : Func} {f : Nat → Int} (h : Rp (Bs.of w0) n σ a w) (d : Nat) (hres : fn.results = #[.tmp d]) (hd : d < n) (x c : Nat) (hs : σ.s d = some (.sli x 0 32 c)) (hc : 32 ≤ c) {cs : List Value} (hm : σ.m x = some cs) (hcs : cs = by32 f) : bodyPost P fn (New32 f w0) .ret a w := by
  obtain ⟨β, hp⟩ := h
  have e : a.tmps[d]? = some (.slice (some ⟨β x, 0, none⟩) 32 c) := by
    rw [hp.sl d _ hd hs]
    rfl
  obtain ⟨h1, h2, h3, h4⟩ := hp.va x cs hm
  subst hcs
  refine ⟨hp.df, .slice (some ⟨β x, 0, none⟩) 32 c, by simp [results, hres, e], β x, c, rfl, hc, ?_, h2, h3, h4, Bs.kp_of hp.bl⟩
  rcases h1 with h1 | h1
  · exact h1
  · cases h1
/-- The same, with no room behind it. -/
def NewC (f : Nat → Int) (w : World) (e : Ending) (w' : World) : Prop := ∃ b, e = .returned (.slice (some ⟨b, 0, none⟩) 32 32) ∧ w.heap.size ≤ b ∧ b < w'.heap.size ∧ w'.rangeAt b 0 (by32 f) ∧ w'.there b 0 32 ∧ Below w.heap.size w w'
theorem NewC.new {f : Nat → Int} {w w' : World} {e : Ending} (h : NewC f w e w') : New32 f w e w' :=
  let ⟨b, h1, h2, h3, h4, h5, h6⟩ := h
  ⟨b, 32, h1, Nat.le_refl _, h2, h3, h4, h5, h6⟩
theorem NewC.congr {f g : Nat → Int} {w w' : World} {e : Ending} (h : NewC f w e w') (q : ∀ i, i < 32 → f i = g i) : NewC g w e w' := by
  unfold NewC at *
  rw [← by32_ext q]
  exact h
theorem newC_row {f : Nat → Int} {w w' : World} {e : Ending} {g : Nat} (he : e = .returned (.slice (some ⟨g, 0, none⟩) 32 32)) (hg : w.heap.size ≤ g) (hr : Row8 w' g 32 f) (hb : Below w.heap.size w w') : NewC f w e w' := by
  obtain ⟨b, c, h1, _, h2, h3, h4, h5, h6⟩ := new32_row he hg (Nat.le_refl _) hr hb
  rw [he] at h1
  cases h1
  exact ⟨g, he, h2, h3, h4, h5, h6⟩
theorem ret_newC {P : Program} {w0 : World} {n : Nat} {σ : SS} {a : Act} {w : World} {fn : Func} {f : Nat → Int} (h : Rp (Bs.of w0) n σ a w) (d : Nat) (hres : fn.results = #[.tmp d]) (hd : d < n) (x : Nat) (hs : σ.s d = some (.sli x 0 32 32)) {cs : List Value} (hm : σ.m x = some cs) (hcs : cs = by32 f) : bodyPost P fn (NewC f w0) .ret a w := by
  obtain ⟨β, hp⟩ := h
  have e : a.tmps[d]? = some (.slice (some ⟨β x, 0, none⟩) 32 32) := by
    rw [hp.sl d _ hd hs]
    rfl
  obtain ⟨h1, h2, h3, h4⟩ := hp.va x cs hm
  subst hcs
  refine ⟨hp.df, .slice (some ⟨β x, 0, none⟩) 32 32, by simp [results, hres, e], β x, rfl, ?_, h2, h3, h4, Bs.kp_of hp.bl⟩
  rcases h1 with h1 | h1
  · exact h1
  · cases h1
end Go.Proofs.YtolehamdaceikabDoor
namespace Go.Proofs.YtolehamdaceikabDoor
open Go.RowKit
attribute [local go_sem ↓] Go.wp_at_zero Go.wp_at_succ

theorem rest8 (k : Nat) : k % 8 = 0 ∨ k % 8 = 1 ∨ k % 8 = 2 ∨ k % 8 = 3 ∨ k % 8 = 4 ∨ k % 8 = 5 ∨ k % 8 = 6 ∨ k % 8 = 7 := by omega

set_option maxRecDepth 100000 in
set_option maxHeartbeats 1000000 in
theorem drop_any (x : Int) (h0 : 0 ≤ x) (h1 : x < 18446744073709551616) (k : Nat) (hk : k < 64) (w : World) :
    Calls Tryd.prog 38 #[.int .u64 x, .int .i64 k] w fun e w' => e = .returned (.int .u8 (x / 256 ^ (k % 8) % 256)) ∧ w' = w := by
  rcases rest8 k with hr | hr | hr | hr | hr | hr | hr | hr
  all_goals
    rw [hr]
    have hri : (k : Int) % 8 = ((k % 8 : Nat) : Int) := by omega
    rw [hr] at hri
    clear hr
    go_enter Tryd.func38, Tryd.ntmps38
    go_wp2
    go_ret
    exact ⟨ret_int (by first | (simp; done) | (simp; omega)), rfl⟩

/-- A row that was made. -/
theorem row_made {w : World} {base b n : Nat} (h : w.ownsRow base 5 1 (.slice (some ⟨b, 0, none⟩) n n) n (madeCells (Value.int .u8 0).cells (n * 1)).toList) : Row8 w b n (fun _ => 0) := by
  have hlt := h.lt b rfl
  refine ⟨hlt.2, fun i hi => ?_, fun i _ => h.frozenAt i⟩
  rw [h.cellAt i (by omega), Nat.mul_one, show (Value.int .u8 0).cells = #[.int .u8 0] from rfl, toList_madeCells_one, List.getElem?_replicate, if_pos hi]
theorem Arr.set1 {W : World} {n b o : Nat} {y0 y1 y2 y3 : Int} {v : Value} (h : Arr W b y0 y1 y2 y3) (hn : b ≠ n) : Arr (W.setCell ⟨n, o, none⟩ v) b y0 y1 y2 y3 :=
  ⟨by have := h.lt; simpa using this, by simp [go_sem, h.c0], by simp [go_sem, h.c1], by simp [go_sem, h.c2], by simp [go_sem, h.c3]⟩
theorem size_alloc1 (w : World) (o : Obj) : (w.alloc o).heap.size = w.heap.size + 1 := by simp
theorem below_grown {w w0 w1 : World} (h : Below w.heap.size w w0) (hg : w0.grownBy w1 none) : Below w.heap.size w w1 :=
  h.grown hg h.size (fun k hk => by cases hk)

set_option maxRecDepth 100000 in
set_option maxHeartbeats 2000000 in
theorem putLittle_any (a : Int) (w : World) :
    Calls Tryd.prog 26 #[.agg #[.int .u64 (L 0 a), .int .u64 (L 1 a), .int .u64 (L 2 a), .int .u64 (L 3 a)]] w fun e w' => e = .returned (.slice (some ⟨w.heap.size + 1, 0, none⟩) 32 32) ∧ Row8 w' (w.heap.size + 1) 32 (fun i => Y i a) ∧ Below w.heap.size w w' := by
  obtain ⟨i0, hi, hz0, hz1, hz2⟩ := info_parts info8
  have hA0 := Arr.new w w.heap.size rfl 24 (L 0 a) (L 1 a) (L 2 a) (L 3 a)
  go_enter Tryd.func26, Tryd.ntmps26
  go_wp2_with (at_make; refine wpList_make_full _ rfl _ _ 34 rfl (w.heap.size + 1) 5 i0 (.int .u8 0) 1 Tryd.underlying34 hi hz0 hz1 .i64 .i64 32 32 32 rfl rfl rfl rfl (by rw [hz2]; decide) (by decide) (by simp) ?_; intro w1 hown hgrow)
  have hR1 : Row8 w1 (w.heap.size + 1) 32 (fun _ => 0) := by have h := row_made hown; rw [size_alloc1] at h; exact h
  have hB1 : Below w.heap.size w w1 := below_grown (K.alloc (Below.refl _ w) _) hgrow
  have hA1 := hA0.keep ((Below.refl _ _).grown hgrow (Nat.le_refl _) (fun k hk => by cases hk))
  clear hown hgrow hA0 hi hz0 hz1 hz2
  go_loopg [6] 32 (fun g s6 wr => ∃ k : Nat, g = 32 - k ∧ k ≤ 32 ∧ s6 = .int .i64 k ∧ Row8 wr (w.heap.size + 1) 32 (fun i => if i < k then Y i a else 0) ∧ Arr wr w.heap.size (L 0 a) (L 1 a) (L 2 a) (L 3 a) ∧ Below w.heap.size w wr)
  case atStart => exact ⟨0, rfl, by omega, rfl, hR1.congr (fun i hi => by simp), hA1, hB1⟩
  case round =>
    clear hR1 hA1 hB1 w1
    obtain ⟨k, rfl, hk, rfl, hR, hA, hB⟩ := hrel
    by_cases hlt : k < 32
    · have HR : Hid (Row8 wr (w.heap.size + 1) 32 (fun i => if i < k then Y i a else 0)) := hR
      have HA : Hid (Arr wr w.heap.size (L 0 a) (L 1 a) (L 2 a) (L 3 a)) := hA
      have HB : Hid (Below w.heap.size w wr) := hB
      have hcell := hR.c k (by omega)
      have hfree := hR.z k (by omega)
      have ⟨al, a0, a1, a2, a3⟩ := hA
      have hrl := hR.lt
      have hq : (k : Int) / 8 = 0 ∨ (k : Int) / 8 = 1 ∨ (k : Int) / 8 = 2 ∨ (k : Int) / 8 = 3 := by omega
      clear hR hA hB
      rcases hq with hq | hq | hq | hq
      · have l1 := L_lo 0 a
        have l2 := L_hi 0 a
        go_wp2_with (go_at_call 38; with_reducible refine Calls.mono (drop_any (L 0 a) (by omega) (by omega) k (by omega) _) ?_; rintro e w' ⟨rfl, rfl⟩)
        go_roundg (32 - (k + 1))
        case measure => omega
        case rel => exact ⟨k + 1, rfl, by omega, by go_num, (HR.out.store k (by omega) _).congr (fun i hi => by rw [byte_word a 0 (k % 8) (by omega), show 8 * 0 + k % 8 = k by omega]; (repeat' split) <;> first | rfl | (congr 1; omega) | omega), HA.out.set1 (by omega), K.set HB.out (by simp) _⟩
      · have l1 := L_lo 1 a
        have l2 := L_hi 1 a
        go_wp2_with (go_at_call 38; with_reducible refine Calls.mono (drop_any (L 1 a) (by omega) (by omega) k (by omega) _) ?_; rintro e w' ⟨rfl, rfl⟩)
        go_roundg (32 - (k + 1))
        case measure => omega
        case rel => exact ⟨k + 1, rfl, by omega, by go_num, (HR.out.store k (by omega) _).congr (fun i hi => by rw [byte_word a 1 (k % 8) (by omega), show 8 * 1 + k % 8 = k by omega]; (repeat' split) <;> first | rfl | (congr 1; omega) | omega), HA.out.set1 (by omega), K.set HB.out (by simp) _⟩
      · have l1 := L_lo 2 a
        have l2 := L_hi 2 a
        go_wp2_with (go_at_call 38; with_reducible refine Calls.mono (drop_any (L 2 a) (by omega) (by omega) k (by omega) _) ?_; rintro e w' ⟨rfl, rfl⟩)
        go_roundg (32 - (k + 1))
        case measure => omega
        case rel => exact ⟨k + 1, rfl, by omega, by go_num, (HR.out.store k (by omega) _).congr (fun i hi => by rw [byte_word a 2 (k % 8) (by omega), show 8 * 2 + k % 8 = k by omega]; (repeat' split) <;> first | rfl | (congr 1; omega) | omega), HA.out.set1 (by omega), K.set HB.out (by simp) _⟩
      · have l1 := L_lo 3 a
        have l2 := L_hi 3 a
        go_wp2_with (go_at_call 38; with_reducible refine Calls.mono (drop_any (L 3 a) (by omega) (by omega) k (by omega) _) ?_; rintro e w' ⟨rfl, rfl⟩)
        go_roundg (32 - (k + 1))
        case measure => omega
        case rel => exact ⟨k + 1, rfl, by omega, by go_num, (HR.out.store k (by omega) _).congr (fun i hi => by rw [byte_word a 3 (k % 8) (by omega), show 8 * 3 + k % 8 = k by omega]; (repeat' split) <;> first | rfl | (congr 1; omega) | omega), HA.out.set1 (by omega), K.set HB.out (by simp) _⟩
    · go_wp2_with fail
      obtain rfl : k = 32 := by omega
      go_ret
      exact ⟨rfl, hR.congr (fun i hi => if_pos (by omega)), hB⟩

theorem e_PutC (a : Int) (w : World) :
    Calls Tryd.prog 26 #[.agg #[.int .u64 (L 0 a), .int .u64 (L 1 a), .int .u64 (L 2 a), .int .u64 (L 3 a)]] w fun e w' => NewC (fun i => Y i a) w e w' :=
  Calls.mono (putLittle_any a w) (fun _ _ ⟨he, hr, hb⟩ => newC_row he (by omega) hr hb)
theorem e_PutL (a : Int) (w : World) :
    Calls Tryd.prog 26 #[.agg #[.int .u64 (L 0 a), .int .u64 (L 1 a), .int .u64 (L 2 a), .int .u64 (L 3 a)]] w fun e w' => New32 (fun i => Y i a) w e w' :=
  Calls.mono (putLittle_any a w) (fun _ _ ⟨he, hr, hb⟩ => new32_row he (by omega) (by omega) hr hb)
end Go.Proofs.YtolehamdaceikabDoor
namespace Go.Proofs.YtolehamdaceikabDoor

/-- A number whose square is -1. -/
def imN : Nat := 19681161376707505956807079304988542015446066515923890162744021073123829784752
def im : Fin m2 := kc (imN : Int)
theorem im_sq : im * im = - 1 := by
  rw [im, ← kc_mul]
  exact neg_kc (by decide +kernel) rfl
/-- What X X is, with that Y. -/
def xx2 (y : Fin m2) : Fin m2 := (y * y - 1) * fiv (ed * (y * y) + 1)
def ex8 : Nat := 7237005577332262213973186563042994240829374041602535252466099000494570602494
theorem ex8_4 : 2 * (2 * ex8) = (m2 - 1) / 2 + 2 := by decide +kernel
theorem ex8_pos : ex8 = 7237005577332262213973186563042994240829374041602535252466099000494570602493 + 1 := by decide +kernel
def rt (y : Fin m2) : Fin m2 := xx2 y ^ ex8
theorem nil_den {p : Nat} [NeZero p] (d : Fin p) (h : d * (0 * 0) + 1 = 0) : (1 : Fin p) = 0 := by grobner
theorem den_ne (y : Fin m2) : ed * (y * y) + 1 ≠ 0 := by
  intro h
  by_cases hy : y = 0
  · have h1 := fld2.one
    subst hy
    exact h1 (nil_den ed h)
  · refine ns_frac ek2 (u := im) (v := y) hy ?_
    have := im_sq
    clear hy
    grobner
theorem on_xx {a : Ep m2} (h : a.on ed) : a.x * a.x = xx2 a.y := by
  have h1 := fld2.inv _ (den_ne a.y)
  unfold Ep.on at h
  unfold xx2
  generalize fiv (ed * (a.y * a.y) + 1) = v at *
  generalize a.x = x at *
  generalize a.y = y at *
  generalize ed = d at *
  grobner
theorem xx_on {x y : Fin m2} (h : x * x = xx2 y) : (⟨x, y⟩ : Ep m2).on ed := by
  have h1 := fld2.inv _ (den_ne y)
  show y * y - x * x = 1 + ed * (x * x * (y * y))
  unfold xx2 at h
  generalize fiv (ed * (y * y) + 1) = v at *
  generalize ed = d at *
  grobner
theorem sq_two {x y : Fin m2} (h : x * x = y * y) : y = x ∨ y = - x := by
  have e : (y - x) * (y + x) = 0 := by grobner
  rcases fld2.dom e with e | e
  · exact Or.inl (by clear h; grobner)
  · exact Or.inr (by clear h; grobner)
theorem pow_nil {n : Nat} : (0 : Fin m2) ^ (n + 1) = 0 := by
  have : (0 : Fin m2) ^ (n + 1) = 0 ^ n * 0 := by grobner
  rw [this]
  generalize (0 : Fin m2) ^ n = z
  grobner
theorem pow_two_more (x : Fin m2) (n : Nat) : x ^ (n + 2) = x ^ n * (x * x) := by grobner
theorem pow_mul_self (x : Fin m2) (n : Nat) : x ^ n * x ^ n = x ^ (2 * n) := by
  rw [← pow_sq]
  have h : ∀ n : Nat, x ^ n * x ^ n = (x * x) ^ n := fun n => by
    induction n with
    | zero => grobner
    | succ n ih =>
      have a1 : x ^ (n + 1) * x ^ (n + 1) = x ^ n * x ^ n * (x * x) := by clear ih; grobner
      have a2 : (x * x) ^ (n + 1) = (x * x) ^ n * (x * x) := by clear ih a1; grobner
      rw [a1, a2, ih]
  exact h n
/-- A power of a square is its root, or the root of its other one. -/
theorem rt_sq (x : Fin m2) : (x * x) ^ ex8 * (x * x) ^ ex8 = x * x ∨ (x * x) ^ ex8 * (x * x) ^ ex8 = - (x * x) := by
  by_cases hx : x = 0
  · subst hx
    left
    rw [show (0 : Fin m2) * 0 = 0 from nil_sq, ex8_pos, pow_nil]
    exact nil_sq
  · have h1 : (x * x) ^ ex8 * (x * x) ^ ex8 = x ^ ((m2 - 1) / 2) * (x * x) := by
      rw [pow_sq, pow_mul_self, ex8_4, pow_two_more]
    have h2 : x ^ ((m2 - 1) / 2) * x ^ ((m2 - 1) / 2) = 1 := by
      rw [pow_mul_self, show 2 * ((m2 - 1) / 2) = m2 - 1 by unfold m2 q2; omega]
      exact fermat_fin m2_full hx
    rw [h1]
    clear h1
    generalize x ^ ((m2 - 1) / 2) = u at *
    rcases sq_two (x := 1) (y := u) (by grobner) with rfl | rfl
    · left; grobner
    · right; grobner
theorem rt_ok {a : Ep m2} (h : a.on ed) : (rt a.y * rt a.y = xx2 a.y ∧ (a.x = rt a.y ∨ a.x = - rt a.y)) ∨ (rt a.y * rt a.y = - xx2 a.y ∧ (a.x = rt a.y * im ∨ a.x = - (rt a.y * im))) := by
  have e := on_xx h
  have r := rt_sq a.x
  rw [e] at r
  rcases r with r | r
  · exact Or.inl ⟨r, sq_two (show rt a.y * rt a.y = a.x * a.x by rw [e]; exact r)⟩
  · refine Or.inr ⟨r, sq_two ?_⟩
    rw [e]
    have r2 : rt a.y * rt a.y = - xx2 a.y := r
    have i2 := im_sq
    clear r e h
    generalize rt a.y = x at *
    generalize xx2 a.y = z at *
    grobner
theorem neg_val {x : Fin m2} (h : x ≠ 0) : (- x).val = m2 - x.val := by
  have h0 : x.val ≠ 0 := fun e => h (Fin.ext (by rw [e]; rfl))
  have h1 := x.isLt
  rw [Fin.val_neg, if_neg h]
theorem par_neg {x : Fin m2} (h : x ≠ 0) : (- x).val % 2 ≠ x.val % 2 := by
  rw [neg_val h]
  have h1 := x.isLt
  unfold m2 q2 at *
  omega
/-- Of two numbers with one square the one with that last bit. -/
theorem par_one {x y : Fin m2} (h : y = x ∨ y = - x) (e : y.val % 2 = x.val % 2) : y = x := by
  rcases h with h | h
  · exact h
  · by_cases h0 : x = 0
    · rw [h, h0]; decide +kernel
    · exact absurd (h ▸ e) (par_neg h0)
theorem par_other {x y : Fin m2} (h : y = x ∨ y = - x) (e : y.val % 2 ≠ x.val % 2) : y = - x := by
  rcases h with h | h
  · exact absurd (by rw [h]) e
  · exact h
/-- The number that a point's bytes are. -/
def code (a : Ep m2) : Nat := a.y.val + 2 ^ 255 * (a.x.val % 2)
theorem y_lt (a : Ep m2) : a.y.val < 2 ^ 255 := by
  have := a.y.isLt
  unfold m2 q2 at this
  omega
theorem code_mod (a : Ep m2) : code a % 2 ^ 255 = a.y.val := by
  have := y_lt a
  unfold code
  rw [Nat.add_mul_mod_self_left, Nat.mod_eq_of_lt this]
theorem code_div (a : Ep m2) : code a / 2 ^ 255 = a.x.val % 2 := by
  have := y_lt a
  unfold code
  rw [Nat.add_mul_div_left _ _ (by decide), Nat.div_eq_of_lt this, Nat.zero_add]
theorem code_lt (a : Ep m2) : code a < 2 ^ 256 := by
  have := y_lt a
  have : a.x.val % 2 < 2 := Nat.mod_lt _ (by decide)
  unfold code
  omega
theorem code_inj {a b : Ep m2} (ha : a.on ed) (hb : b.on ed) (h : code a = code b) : a = b := by
  have e1 : a.y = b.y := Fin.ext (by rw [← code_mod, ← code_mod, h])
  have e2 : a.x.val % 2 = b.x.val % 2 := by rw [← code_div, ← code_div, h]
  have e3 : a.x = b.x := par_one (sq_two (by rw [on_xx ha, on_xx hb, e1])) e2
  cases a; cases b; cases e1; cases e3; rfl
/-- The four numbers that the document tries. -/
def tr (y : Fin m2) : Nat → Fin m2
  | 0 => rt y
  | 1 => rt y * im
  | 2 => 0 - rt y
  | _ + 3 => 0 - rt y * im
def goodB (U : Nat) (y : Fin m2) (i : Nat) : Bool := decide (y * y - tr y i * tr y i = 1 + ed * (tr y i * tr y i * (y * y))) && decide (code ⟨tr y i, y⟩ = U)
theorem goodB_iff {U : Nat} {y : Fin m2} {i : Nat} : goodB U y i = true ↔ (⟨tr y i, y⟩ : Ep m2).on ed ∧ code ⟨tr y i, y⟩ = U := by
  unfold goodB Ep.on
  rw [Bool.and_eq_true, decide_eq_true_eq, decide_eq_true_eq]
def dec (U : Nat) : Option (Ep m2) := if U % 2 ^ 255 < m2 then ((List.range 4).find? (goodB U (kc ((U % 2 ^ 255 : Nat) : Int)))).map fun i => ⟨tr (kc ((U % 2 ^ 255 : Nat) : Int)) i, kc ((U % 2 ^ 255 : Nat) : Int)⟩ else none
theorem dec_is {U : Nat} {a : Ep m2} (h : dec U = some a) : a.on ed ∧ code a = U := by
  unfold dec at h
  split at h
  · rw [Option.map_eq_some_iff] at h
    obtain ⟨i, hi, rfl⟩ := h
    exact goodB_iff.1 (List.find?_some hi)
  · cases h
theorem tr_ok {a : Ep m2} (h : a.on ed) : ∃ i, i < 4 ∧ tr a.y i = a.x := by
  rcases rt_ok h with ⟨_, e | e⟩ | ⟨_, e | e⟩
  · exact ⟨0, by decide, e.symm⟩
  · exact ⟨2, by decide, by rw [e]; show 0 - rt a.y = _; generalize rt a.y = x; grobner⟩
  · exact ⟨1, by decide, e.symm⟩
  · exact ⟨3, by decide, by rw [e]; show 0 - rt a.y * im = _; generalize rt a.y * im = x; grobner⟩
theorem y_of_code {U : Nat} {a : Ep m2} (h : code a = U) : U % 2 ^ 255 < m2 ∧ (kc ((U % 2 ^ 255 : Nat) : Int) : Fin m2) = a.y := by
  rw [← h, code_mod]
  exact ⟨a.y.isLt, kc_self _⟩
theorem dec_of {U : Nat} {a : Ep m2} (ha : a.on ed) (hc : code a = U) : dec U = some a := by
  obtain ⟨hy, e⟩ := y_of_code hc
  obtain ⟨i, hi, et⟩ := tr_ok ha
  have hg : goodB U a.y i = true := goodB_iff.2 (by rw [et]; exact ⟨ha, hc⟩)
  cases hd : dec U with
  | some b => rw [code_inj (dec_is hd).1 ha ((dec_is hd).2.trans hc.symm)]
  | none =>
    unfold dec at hd
    rw [if_pos hy, e, Option.map_eq_none_iff, List.find?_eq_none] at hd
    exact absurd hg (hd i (List.mem_range.2 hi))
theorem dec_none {U : Nat} (h : ∀ a : Ep m2, a.on ed → code a ≠ U) : dec U = none := by
  cases hd : dec U with
  | none => rfl
  | some b => exact absurd (dec_is hd).2 (h b (dec_is hd).1)
theorem dec_code {a : Ep m2} (h : a.on ed) : dec (code a) = some a := dec_of h rfl
/-- The point that is answered; whether there is one. -/
def dpt (U : Nat) : Ep m2 := (dec U).getD (Ep.o m2)
def dok (U : Nat) : Bool := (dec U).isSome
theorem dpt_some {U : Nat} {a : Ep m2} (h : dec U = some a) : dpt U = a ∧ dok U = true := by unfold dpt dok; rw [h]; exact ⟨rfl, rfl⟩
theorem dpt_none {U : Nat} (h : dec U = none) : dpt U = Ep.o m2 ∧ dok U = false := by unfold dpt dok; rw [h]; exact ⟨rfl, rfl⟩
theorem dpt_on (U : Nat) : (dpt U).on ed := by
  cases h : dec U with
  | none => rw [(dpt_none h).1]; exact Ep.o_on _
  | some a => rw [(dpt_some h).1]; exact (dec_is h).1
/-- One of the tries, the first that does: so is the answer. -/
theorem dec_try {U : Nat} {y : Fin m2} {i : Nat} (h1 : (⟨tr y i, y⟩ : Ep m2).on ed) (h2 : code ⟨tr y i, y⟩ = U) : dec U = some ⟨tr y i, y⟩ := dec_of h1 h2
/-- None of the tries does: there is none. -/
theorem dec_tries {U : Nat} (hy : ∀ a : Ep m2, a.on ed → code a = U → False ∨ ∃ i, i < 4 ∧ tr a.y i = a.x ∧ ¬ ((⟨tr a.y i, a.y⟩ : Ep m2).on ed ∧ code ⟨tr a.y i, a.y⟩ = U)) : dec U = none := by
  refine dec_none fun a ha hc => ?_
  rcases hy a ha hc with h | ⟨i, _, et, h⟩
  · exact h
  · exact h (by rw [et]; exact ⟨ha, hc⟩)
/-- A root, turned where it is the root of the other one, with the last bit that is asked: the X, if there is one. -/
theorem root_told {a : Ep m2} (ha : a.on ed) {s x1 x2 : Fin m2} (h1 : x1 = if rt a.y * rt a.y = xx2 a.y then rt a.y else rt a.y * im) (_ : s = a.x) (h2 : x2 = if x1.val % 2 = a.x.val % 2 then x1 else - x1) : x2 = a.x := by
  have h3 : a.x = x1 ∨ a.x = - x1 := by
    rcases rt_ok ha with ⟨e, h⟩ | ⟨e, h⟩
    · rw [if_pos e] at h1
      rw [h1]; exact h
    · by_cases e2 : rt a.y * rt a.y = xx2 a.y
      · rw [if_pos e2] at h1
        have e3 := on_xx ha
        rw [h1]
        exact sq_two (by rw [e2, e3])
      · rw [if_neg e2] at h1
        rw [h1]; exact h
  by_cases hp : x1.val % 2 = a.x.val % 2
  · rw [if_pos hp] at h2
    rw [h2]; exact (par_one h3 hp.symm).symm
  · rw [if_neg hp] at h2
    rw [h2]; exact (par_other h3 (fun e => hp e.symm)).symm
end Go.Proofs.YtolehamdaceikabDoor
namespace Go.Proofs.YtolehamdaceikabDoor
open Go.RowKit

/-- A number below 2^255, and one bit above it: their bytes. -/
theorem Y_add (y t : Int) (i : Nat) : Y i (y + 256 ^ (i + 1) * t) = Y i y := by
  unfold Y
  rw [Int.pow_succ, Int.mul_assoc, Int.add_mul_ediv_left _ _ (Int.ne_of_gt (Int.pow_pos (by omega))), Int.add_mul_emod_self_left]
theorem top_pow {i : Nat} (hi : i < 31) : (2 : Int) ^ 255 = 256 ^ (i + 1) * 2 ^ (255 - 8 * (i + 1)) := by
  rw [show (256 : Int) = 2 ^ 8 from rfl, ← Int.pow_mul, ← Int.pow_add, show 8 * (i + 1) + (255 - 8 * (i + 1)) = 255 by omega]
theorem Y_low (y s : Int) {i : Nat} (hi : i < 31) : Y i (y + 2 ^ 255 * s) = Y i y := by
  rw [top_pow hi, Int.mul_assoc, Y_add]
theorem Y_top {y : Int} (h0 : 0 ≤ y) (h : y < 2 ^ 255) : 0 ≤ Y 31 y ∧ Y 31 y < 128 ∧ Y 31 y = y / 256 ^ 31 := by
  unfold Y
  have e : (2 : Int) ^ 255 = 256 ^ 31 * 128 := by decide +kernel
  have h1 : 0 ≤ y / 256 ^ 31 := Int.ediv_nonneg h0 (by decide +kernel)
  have h2 : y / 256 ^ 31 < 128 := Int.ediv_lt_of_lt_mul (by decide +kernel) (by rw [Int.mul_comm, ← e]; exact h)
  omega
theorem Y_high {y s : Int} (h0 : 0 ≤ y) (h : y < 2 ^ 255) (hs : s = 0 ∨ s = 1) : Y 31 (y + 2 ^ 255 * s) = Y 31 y + 128 * s := by
  obtain ⟨a, b, c⟩ := Y_top h0 h
  rw [c] at a b
  rw [c]
  unfold Y
  rw [show (2 : Int) ^ 255 = 256 ^ 31 * 128 by decide +kernel, Int.mul_assoc, Int.add_mul_ediv_left _ _ (by decide +kernel)]
  omega
theorem lw_lo (i : Nat) (x : Int) : 0 ≤ lw i x := L_lo i x
theorem L0_odd (x : Int) : lw 0 x % 2 = x % 2 := by
  show L 0 x % 2 = x % 2
  rw [L0]
  omega
theorem code_int (a : Ep m2) : ((code a : Nat) : Int) = (a.y.val : Int) + 2 ^ 255 * ((a.x.val % 2 : Nat) : Int) := by
  unfold code
  rw [Int.natCast_add, Int.natCast_mul, Int.natCast_pow]
  rfl
theorem y_int (a : Ep m2) : (a.y.val : Int) < 2 ^ 255 := by
  have := y_lt a
  rw [show (2 : Int) ^ 255 = ((2 ^ 255 : Nat) : Int) from rfl]
  omega
theorem code_even {a : Ep m2} (h : a.x.val % 2 = 0) : code a = a.y.val := by unfold code; rw [h]; rfl
theorem code_o : code (Ep.o m2) = 1 := by decide +kernel
theorem o_even : lw 0 ((((Ep.o m2).x).val : Nat) : Int) % 2 = 0 := by decide +kernel
theorem by32_o : by32 (fun i => Y i ((code (Ep.o m2) : Nat) : Int)) = [Value.int .u8 1] ++ [Value.int .u8 0] ++ [Value.int .u8 0] ++ [Value.int .u8 0] ++ [Value.int .u8 0] ++ [Value.int .u8 0] ++ [Value.int .u8 0] ++ [Value.int .u8 0] ++ [Value.int .u8 0] ++ [Value.int .u8 0] ++ [Value.int .u8 0] ++ [Value.int .u8 0] ++ [Value.int .u8 0] ++ [Value.int .u8 0] ++ [Value.int .u8 0] ++ [Value.int .u8 0] ++ [Value.int .u8 0] ++ [Value.int .u8 0] ++ [Value.int .u8 0] ++ [Value.int .u8 0] ++ [Value.int .u8 0] ++ [Value.int .u8 0] ++ [Value.int .u8 0] ++ [Value.int .u8 0] ++ [Value.int .u8 0] ++ [Value.int .u8 0] ++ [Value.int .u8 0] ++ [Value.int .u8 0] ++ [Value.int .u8 0] ++ [Value.int .u8 0] ++ [Value.int .u8 0] ++ [Value.int .u8 0] := by
  rw [code_o]
  kernel_rfl
theorem e_on {a : Ep m2} (i : Nat) (hi : i < 31) : Y i ((code a : Nat) : Int) = Y i (a.y.val : Int) := by rw [code_int, Y_low _ _ hi]
theorem code_top {a : Ep m2} (h : a.x.val % 2 = 1) : Y 31 ((code a : Nat) : Int) = Y 31 (a.y.val : Int) + 128 := by
  rw [code_int, Y_high (by omega) (y_int a) (Or.inr (by rw [h]; rfl)), h]
  rfl
end Go.Proofs.YtolehamdaceikabDoor
namespace Go.Proofs.YtolehamdaceikabDoor
open Go.RowKit

theorem or_top8 : ∀ a : Fin 128, (BitVec.ofInt 8 (a.val : Int) ||| BitVec.ofInt 8 128).toNat = a.val + 128 := by decide +kernel
theorem i_orB {P : Program} (ty : TypeId) (a c : Int) (h0 : 0 ≤ a) (h1 : a < 128) (hc : c = a + 128) (w : World) : (binOp .or ty (.int .u8 a) (.int .u8 128)).run P w = .ok (.int .u8 c) w := by
  have h := or_top8 ⟨a.toNat, by omega⟩
  simp only [Int.toNat_of_nonneg h0] at h
  have e : (Op.intBits .or .u8 a 128).run P w = .ok (.int .u8 c) w := by
    show Result.ok (Value.int .u8 (IntKind.u8.wrap ((BitVec.ofInt 8 a ||| BitVec.ofInt 8 128).toNat : Int))) w = _
    rw [h]
    have : ((a.toNat + 128 : Nat) : Int) = c := by omega
    rw [this, wrapB (by omega)]
  simpa [binOp] using e
theorem i_and63 {P : Program} (ty : TypeId) (a c : Int) (h0 : 0 ≤ a) (h1 : a < 18446744073709551616) (hc : c = a % 9223372036854775808) (w : World) : (binOp .and ty (.int .u64 a) (.int .u64 9223372036854775807)).run P w = .ok (.int .u64 c) w := by
  have h : (BitVec.ofInt 64 a &&& BitVec.ofInt 64 9223372036854775807).toNat = a.toNat % 9223372036854775808 := by
    rw [BitVec.toNat_and]
    have e1 : (BitVec.ofInt 64 a).toNat = a.toNat := by
      rw [BitVec.toNat_ofInt]
      congr 1
      rw [Int.emod_eq_of_lt h0 (by simpa using h1)]
    have e2 : (BitVec.ofInt 64 9223372036854775807).toNat = 2 ^ 63 - 1 := by decide +kernel
    rw [e1, e2, Nat.and_two_pow_sub_one_eq_mod]
  have e : (Op.intBits .and .u64 a 9223372036854775807).run P w = .ok (.int .u64 c) w := by
    show Result.ok (Value.int .u64 (IntKind.u64.wrap ((BitVec.ofInt 64 a &&& BitVec.ofInt 64 9223372036854775807).toNat : Int))) w = _
    rw [h]
    have : ((a.toNat % 9223372036854775808 : Nat) : Int) = c := by omega
    rw [this, wrapW (by omega)]
  simpa [binOp] using e
theorem i_shr63 {P : Program} (ty : TypeId) (a c : Int) (hc : c = a / 9223372036854775808) (w : World) : (binOp .shr ty (.int .u64 a) (.int .u64 63)).run P w = .ok (.int .u64 c) w := by
  have e : a.fdiv 9223372036854775808 = c := by rw [hc, Int.fdiv_eq_ediv_of_nonneg _ (by decide)]
  simp [binOp, Op.shift, IntKind.bits, e]
end Go.Proofs.YtolehamdaceikabDoor
namespace Go.Proofs.YtolehamdaceikabDoor
open Go.RowKit

theorem i22 : (Tryd.prog.info? 22).map (·.size) = some 1 := by kernel_rfl
theorem cE26 (vs : List Value) : ∀ w, (callFunc 26 vs.toArray).run Tryd.prog w = .ok (.enter 26 vs.toArray) w := callFunc_enter Tryd.func26 (by kernel_rfl) (by kernel_rfl) _
section
variable {P : Program} {W : Bs} {n : Nat} {ops : Array Oper} {i : Nat} {o : Oper} {L : Nat → Bool} {xs : List OE} {σ : SS}
theorem u_lenQ (u : Up ops i o L) (hg : Gd ops n o (run L 0 xs σ)) (dd : Nat) (hdd : o.dst = some dd) (x : Operand) (t : TypeId) (ho : o.op = .call { callee := .builtin .len, args := #[x], argTypes := #[t] }) {y off m c : Nat} (hx : lookO n ops i o xs σ x = some (.sli y off m c)) {e : TypeId} (hu : P.underlying t = some (.slice e)) : GStep P W n ops o (run L 0 xs σ) ((eS dd (.val (.int .i64 (m : Int)))).app (run L 0 xs σ)) := by
  refine u_any u hg dd hdd _ (fun x c hp => by cases hp) fun β a w hr => ?_
  unfold execOp
  simp [ho, resolve, invoke, builtin, hr.eval (u.ev hx), SV.at, Builtin.len_, goInt, run_underlying hu]
end
theorem e_bit0 {w : World} (k : Nat) : Calls Tryd.prog 29 [.agg (nc (k : Int)).toArray, .int .i64 0].toArray w fun e w' => e = .returned (.int .i64 ((k % 2 : Nat) : Int)) ∧ Below w.heap.size w w' := by
  have h := e_bit (w := w) k 0 (by omega)
  rw [Nat.pow_zero, Nat.div_one] at h
  exact h
set_option maxRecDepth 100000 in
set_option maxHeartbeats 4000000 in
theorem e_odd_t {w : World} {x : Fin m2} (hp : x.val % 2 = 1) : Calls Tryd.prog 27 [.agg (gc (x)).toArray].toArray w fun e w' => e = .returned (.bool true) ∧ Below w.heap.size w w' := by
  refine enter (args := [.agg (gc (x)).toArray]) Tryd.func27 rfl 6 rfl (lk rfl) (fun a h => ?_)
  refine go_region h hm [eN 1 (gc (x)), eS 2 (.val (Value.bool false))] (by kernel_rfl) ⟨
    fun L u => u_box u (gd0 rfl) 24 (.tmp 0) rfl 1 rfl rfl rfl _ rfl,
    fun L u => u_move u (gd0 rfl) 2 rfl (.const (.bool false)) (Or.inr rfl) rfl,
    trivial⟩ [(1, .ptr 1 0)] [(1, gc (x))] ⟨rfl, trivial⟩ ⟨rfl, trivial⟩ rfl (fun a w h => ?_)
  refine go_region h hm [eS 3 (.val (.agg (gc (x)).toArray)), eS 4 (.val (Value.int .i64 ((x.val % 2 : Nat) : Int))), eS 5 (.val (Value.bool true)), eS 2 (.val (Value.bool true))] (by kernel_rfl) ⟨
    fun L u => u_load u (gd0 rfl) 3 rfl 24 (.tmp 1) rfl rfl rfl Tryd.underlying24 rfl i24 (lk rfl) _ rfl,
    fun L u => u_call u (gd0 rfl) 4 rfl 29 #[(.tmp 3), (.const (.int .i64 0))] #[24, 3] rfl [.agg (gc (x)).toArray, (Value.int IntKind.i64 0)] rfl (cE29 _) (Value.int .i64 ((x.val % 2 : Nat) : Int)) (fun w hb => e_bit0 x.val),
    fun L u => u_bin u (gd0 rfl) 5 rfl .eql 3 3 (.tmp 4) (.const (.int .i64 1)) rfl rfl rfl (eqg_int _ _ _ _ _ _ _ _) (Value.bool true) (yes_of (fun w => i_eql _ _ _ _ w) (by omega)),
    fun L u => u_move u (gd0 rfl) 2 rfl (.tmp 5) (Or.inr rfl) rfl,
    trivial⟩ [(2, .val (Value.bool true))] [] ⟨rfl, trivial⟩ trivial rfl (fun a w h => ?_)
  refine wp_ret ?_
  refine ret_slot h 2 rfl (lk rfl) (Value.bool true) rfl ?_
  exact ⟨rfl, h.grows⟩
set_option maxRecDepth 100000 in
set_option maxHeartbeats 4000000 in
theorem e_odd_f {w : World} {x : Fin m2} (hp : x.val % 2 = 0) : Calls Tryd.prog 27 [.agg (gc (x)).toArray].toArray w fun e w' => e = .returned (.bool false) ∧ Below w.heap.size w w' := by
  refine enter (args := [.agg (gc (x)).toArray]) Tryd.func27 rfl 6 rfl (lk rfl) (fun a h => ?_)
  refine go_region h hm [eN 1 (gc (x)), eS 2 (.val (Value.bool false))] (by kernel_rfl) ⟨
    fun L u => u_box u (gd0 rfl) 24 (.tmp 0) rfl 1 rfl rfl rfl _ rfl,
    fun L u => u_move u (gd0 rfl) 2 rfl (.const (.bool false)) (Or.inr rfl) rfl,
    trivial⟩ [(1, .ptr 1 0)] [(1, gc (x))] ⟨rfl, trivial⟩ ⟨rfl, trivial⟩ rfl (fun a w h => ?_)
  refine go_region h hm [eS 3 (.val (.agg (gc (x)).toArray)), eS 4 (.val (Value.int .i64 ((x.val % 2 : Nat) : Int))), eS 5 (.val (Value.bool false)), eS 2 (.val (Value.bool false))] (by kernel_rfl) ⟨
    fun L u => u_load u (gd0 rfl) 3 rfl 24 (.tmp 1) rfl rfl rfl Tryd.underlying24 rfl i24 (lk rfl) _ rfl,
    fun L u => u_call u (gd0 rfl) 4 rfl 29 #[(.tmp 3), (.const (.int .i64 0))] #[24, 3] rfl [.agg (gc (x)).toArray, (Value.int IntKind.i64 0)] rfl (cE29 _) (Value.int .i64 ((x.val % 2 : Nat) : Int)) (fun w hb => e_bit0 x.val),
    fun L u => u_bin u (gd0 rfl) 5 rfl .eql 3 3 (.tmp 4) (.const (.int .i64 1)) rfl rfl rfl (eqg_int _ _ _ _ _ _ _ _) (Value.bool false) (no_of (fun w => i_eql _ _ _ _ w) (by omega)),
    fun L u => u_move u (gd0 rfl) 2 rfl (.tmp 5) (Or.inr rfl) rfl,
    trivial⟩ [(2, .val (Value.bool false))] [] ⟨rfl, trivial⟩ trivial rfl (fun a w h => ?_)
  refine wp_ret ?_
  refine ret_slot h 2 rfl (lk rfl) (Value.bool false) rfl ?_
  exact ⟨rfl, h.grows⟩
theorem ox_even : ((Ep.o m2).x).val % 2 = 0 := by decide +kernel
set_option maxRecDepth 100000 in
set_option maxHeartbeats 4000000 in
theorem e_enc_even {w : World} (hT : Tab w) {x y : Fin m2} (hq : y * y - x * x = 1 + ed * (x * x * (y * y))) (hp : x.val % 2 = 0) : Calls Tryd.prog 11 [.agg (gc (x) ++ gc (y) ++ [Value.bool false]).toArray].toArray w fun e w' => NewC (fun i => Y i (((code ⟨x, y⟩ : Nat)) : Int)) w e w' := by
  refine enter (args := [.agg (gc (x) ++ gc (y) ++ [Value.bool false]).toArray]) Tryd.func11 rfl 23 rfl (lk rfl) (fun a h => ?_)
  refine go_region h hm [eN 1 (gc (x) ++ gc (y) ++ [Value.bool false]), eS 2 (.val ((Value.slice none 0 0)))] (by kernel_rfl) ⟨
    fun L u => u_box u (gd0 rfl) 26 (.tmp 0) rfl 1 rfl rfl rfl _ rfl,
    fun L u => u_move u (gd0 rfl) 2 rfl (.const (.slice none 0 0)) (Or.inr rfl) rfl,
    trivial⟩ [(1, .ptr 1 0)] [(1, gc (x) ++ gc (y) ++ [Value.bool false])] ⟨rfl, trivial⟩ ⟨rfl, trivial⟩ rfl (fun a w h => ?_)
  refine wp_seq ?_
  refine go_region h hm [eS 4 (.val (.agg (gc (x) ++ gc (y) ++ [Value.bool false]).toArray)), eS 5 (.val (Value.bool true)), eS 6 (.val (Value.bool false))] (by kernel_rfl) ⟨
    fun L u => u_load u (gd0 rfl) 4 rfl 26 (.tmp 1) rfl rfl rfl Tryd.underlying26 rfl i26 (lk rfl) _ rfl,
    fun L u => u_call u (gd0 rfl) 5 rfl 10 #[(.tmp 4)] #[26] rfl [.agg (gc (x) ++ gc (y) ++ [Value.bool false]).toArray] rfl (cE10 _) (Value.bool true) (fun w hb => by have f := e_formed_at (hT.keep (Bs.kp_of hb)) x y; rw [decide_eq_true hq] at f; exact f),
    fun L u => u_not u (gd0 rfl) 6 rfl 4 (.tmp 5) rfl rfl _ rfl,
    trivial⟩ [(1, .ptr 1 0), (6, .val (Value.bool false))] [(1, gc (x) ++ gc (y) ++ [Value.bool false])] ⟨rfl, rfl, trivial⟩ ⟨rfl, trivial⟩ rfl (fun a w h => ?_)
  refine go_cond h false rfl (fun ht => ?_) (fun hf => ?_)
  case refine_1 => cases ht
  refine wp_skip ?_
  refine then_norm ?_
  refine go_region h hm [eS 8 (.ptr 1 4), eS 9 (.val (.agg (gc (y)).toArray)), (⟨some (10, ⟨undef, some (10, 0), some (32, 32)⟩), some (10, by32 (fun i => Y i ((((y).val : Nat) : Int))))⟩ : OE), eS 3 (.sli 10 0 32 32)] (by kernel_rfl) ⟨
    fun L u => u_field u (gd0 rfl) 8 rfl 26 (.tmp 1) 1 rfl rfl rfl Tryd.underlying26 rfl i24 _ rfl,
    fun L u => u_load u (gd0 rfl) 9 rfl 24 (.tmp 8) rfl rfl rfl Tryd.underlying24 rfl i24 (lk rfl) _ rfl,
    fun L u => u_callN u (gd0 rfl) 10 rfl rfl 26 #[(.tmp 9)] #[24] rfl [.val (.agg (gc (y)).toArray)] rfl (fun vs w => callFunc_enter Tryd.func26 (by kernel_rfl) (by kernel_rfl) vs w) (some (32, 32)) (by32 (fun i => Y i ((((y).val : Nat) : Int)))) (fun β a w hr => e_PutC ((((y).val : Nat) : Int)) w),
    fun L u => u_copy u (gd0 rfl) 3 rfl (.tmp 10) (Or.inr rfl) rfl (fun x c hp => by cases hp; exact ⟨_, rfl⟩),
    trivial⟩ [(1, .ptr 1 0), (3, .sli 10 0 32 32)] [(1, gc (x) ++ gc (y) ++ [Value.bool false]), (10, by32 (fun i => Y i ((((y).val : Nat) : Int))))] ⟨rfl, rfl, trivial⟩ ⟨rfl, rfl, trivial⟩ rfl (fun a w h => ?_)
  refine wp_seq ?_
  refine go_region h hm [eS 11 (.ptr 1 0), eS 12 (.val (.agg (gc (x)).toArray)), eS 13 (.val (Value.bool false))] (by kernel_rfl) ⟨
    fun L u => u_field u (gd0 rfl) 11 rfl 26 (.tmp 1) 0 rfl rfl rfl Tryd.underlying26 rfl i24 _ rfl,
    fun L u => u_load u (gd0 rfl) 12 rfl 24 (.tmp 11) rfl rfl rfl Tryd.underlying24 rfl i24 (lk rfl) _ rfl,
    fun L u => u_call u (gd0 rfl) 13 rfl 27 #[(.tmp 12)] #[24] rfl [.agg (gc (x)).toArray] rfl (cE27 _) (Value.bool false) (fun w hb => e_odd_f hp),
    trivial⟩ [(3, .sli 10 0 32 32), (13, .val (Value.bool false))] [(10, by32 (fun i => Y i ((((y).val : Nat) : Int))))] ⟨rfl, rfl, trivial⟩ ⟨rfl, trivial⟩ rfl (fun a w h => ?_)
  refine go_cond h false rfl (fun ht => ?_) (fun hf => ?_)
  case refine_1 => cases ht
  refine wp_skip ?_
  refine then_norm ?_
  refine go_region h hm [eS 22 (.sli 10 0 32 32), eS 2 (.sli 10 0 32 32)] (by kernel_rfl) ⟨
    fun L u => u_copy u (gd0 rfl) 22 rfl (.tmp 3) (Or.inl rfl) rfl (fun x c hp => by cases hp; exact ⟨_, rfl⟩),
    fun L u => u_copy u (gd0 rfl) 2 rfl (.tmp 22) (Or.inr rfl) rfl (fun x c hp => by cases hp; exact ⟨_, rfl⟩),
    trivial⟩ [(2, .sli 10 0 32 32)] [(10, by32 (fun i => Y i ((((y).val : Nat) : Int))))] ⟨rfl, trivial⟩ ⟨rfl, trivial⟩ rfl (fun a w h => ?_)
  refine wp_ret ?_
  refine ret_newC (cs := by32 (fun i => Y i ((((y).val : Nat) : Int)))) h 2 rfl (lk rfl) 10 rfl rfl ?_
  refine by32_ext ?_; intro i hi; show Y i _ = Y i _; rw [code_even (a := ⟨x, y⟩) hp]
set_option maxRecDepth 100000 in
set_option maxHeartbeats 4000000 in
theorem e_enc_odd {w : World} (hT : Tab w) {x y : Fin m2} (hq : y * y - x * x = 1 + ed * (x * x * (y * y))) (hp : x.val % 2 = 1) (hb0 : 0 ≤ Y 31 ((y.val : Nat) : Int)) (hb1 : Y 31 ((y.val : Nat) : Int) < 128) : Calls Tryd.prog 11 [.agg (gc (x) ++ gc (y) ++ [Value.bool false]).toArray].toArray w fun e w' => NewC (fun i => Y i (((code ⟨x, y⟩ : Nat)) : Int)) w e w' := by
  refine enter (args := [.agg (gc (x) ++ gc (y) ++ [Value.bool false]).toArray]) Tryd.func11 rfl 23 rfl (lk rfl) (fun a h => ?_)
  refine go_region h hm [eN 1 (gc (x) ++ gc (y) ++ [Value.bool false]), eS 2 (.val ((Value.slice none 0 0)))] (by kernel_rfl) ⟨
    fun L u => u_box u (gd0 rfl) 26 (.tmp 0) rfl 1 rfl rfl rfl _ rfl,
    fun L u => u_move u (gd0 rfl) 2 rfl (.const (.slice none 0 0)) (Or.inr rfl) rfl,
    trivial⟩ [(1, .ptr 1 0)] [(1, gc (x) ++ gc (y) ++ [Value.bool false])] ⟨rfl, trivial⟩ ⟨rfl, trivial⟩ rfl (fun a w h => ?_)
  refine wp_seq ?_
  refine go_region h hm [eS 4 (.val (.agg (gc (x) ++ gc (y) ++ [Value.bool false]).toArray)), eS 5 (.val (Value.bool true)), eS 6 (.val (Value.bool false))] (by kernel_rfl) ⟨
    fun L u => u_load u (gd0 rfl) 4 rfl 26 (.tmp 1) rfl rfl rfl Tryd.underlying26 rfl i26 (lk rfl) _ rfl,
    fun L u => u_call u (gd0 rfl) 5 rfl 10 #[(.tmp 4)] #[26] rfl [.agg (gc (x) ++ gc (y) ++ [Value.bool false]).toArray] rfl (cE10 _) (Value.bool true) (fun w hb => by have f := e_formed_at (hT.keep (Bs.kp_of hb)) x y; rw [decide_eq_true hq] at f; exact f),
    fun L u => u_not u (gd0 rfl) 6 rfl 4 (.tmp 5) rfl rfl _ rfl,
    trivial⟩ [(1, .ptr 1 0), (6, .val (Value.bool false))] [(1, gc (x) ++ gc (y) ++ [Value.bool false])] ⟨rfl, rfl, trivial⟩ ⟨rfl, trivial⟩ rfl (fun a w h => ?_)
  refine go_cond h false rfl (fun ht => ?_) (fun hf => ?_)
  case refine_1 => cases ht
  refine wp_skip ?_
  refine then_norm ?_
  refine go_region h hm [eS 8 (.ptr 1 4), eS 9 (.val (.agg (gc (y)).toArray)), (⟨some (10, ⟨undef, some (10, 0), some (32, 32)⟩), some (10, by32 (fun i => Y i ((((y).val : Nat) : Int))))⟩ : OE), eS 3 (.sli 10 0 32 32)] (by kernel_rfl) ⟨
    fun L u => u_field u (gd0 rfl) 8 rfl 26 (.tmp 1) 1 rfl rfl rfl Tryd.underlying26 rfl i24 _ rfl,
    fun L u => u_load u (gd0 rfl) 9 rfl 24 (.tmp 8) rfl rfl rfl Tryd.underlying24 rfl i24 (lk rfl) _ rfl,
    fun L u => u_callN u (gd0 rfl) 10 rfl rfl 26 #[(.tmp 9)] #[24] rfl [.val (.agg (gc (y)).toArray)] rfl (fun vs w => callFunc_enter Tryd.func26 (by kernel_rfl) (by kernel_rfl) vs w) (some (32, 32)) (by32 (fun i => Y i ((((y).val : Nat) : Int)))) (fun β a w hr => e_PutC ((((y).val : Nat) : Int)) w),
    fun L u => u_copy u (gd0 rfl) 3 rfl (.tmp 10) (Or.inr rfl) rfl (fun x c hp => by cases hp; exact ⟨_, rfl⟩),
    trivial⟩ [(1, .ptr 1 0), (3, .sli 10 0 32 32)] [(1, gc (x) ++ gc (y) ++ [Value.bool false]), (10, by32 (fun i => Y i ((((y).val : Nat) : Int))))] ⟨rfl, rfl, trivial⟩ ⟨rfl, rfl, trivial⟩ rfl (fun a w h => ?_)
  refine wp_seq ?_
  refine go_region h hm [eS 11 (.ptr 1 0), eS 12 (.val (.agg (gc (x)).toArray)), eS 13 (.val (Value.bool true))] (by kernel_rfl) ⟨
    fun L u => u_field u (gd0 rfl) 11 rfl 26 (.tmp 1) 0 rfl rfl rfl Tryd.underlying26 rfl i24 _ rfl,
    fun L u => u_load u (gd0 rfl) 12 rfl 24 (.tmp 11) rfl rfl rfl Tryd.underlying24 rfl i24 (lk rfl) _ rfl,
    fun L u => u_call u (gd0 rfl) 13 rfl 27 #[(.tmp 12)] #[24] rfl [.agg (gc (x)).toArray] rfl (cE27 _) (Value.bool true) (fun w hb => e_odd_t hp),
    trivial⟩ [(3, .sli 10 0 32 32), (13, .val (Value.bool true))] [(10, by32 (fun i => Y i ((((y).val : Nat) : Int))))] ⟨rfl, rfl, trivial⟩ ⟨rfl, trivial⟩ rfl (fun a w h => ?_)
  refine go_cond h true rfl (fun ht => ?_) (fun hf => ?_)
  case refine_2 => cases hf
  refine go_end h hm [eS 14 (.sli 10 0 32 32), eS 15 (.sli 10 0 32 32), eS 16 (.val (Value.int .i64 32)), eS 17 (.val (Value.int .i64 31)), eS 18 (.ptr 10 31), eS 19 (.val (Value.int .u8 ((fun i => Y i ((((y).val : Nat) : Int))) 31))), eS 20 (.val (Value.int .u8 (((fun i => Y i ((((y).val : Nat) : Int))) 31) + 128))), eS 21 (.ptr 10 31), eM 10 (by31 (fun i => Y i ((((y).val : Nat) : Int))) ((((fun i => Y i ((((y).val : Nat) : Int))) 31) + 128)))] (by kernel_rfl) ⟨
    fun L u => u_copy u (gd0 rfl) 14 rfl (.tmp 3) (Or.inl rfl) rfl (fun x c hp => by cases hp; exact ⟨_, rfl⟩),
    fun L u => u_copy u (gd0 rfl) 15 rfl (.tmp 3) (Or.inl rfl) rfl (fun x c hp => by cases hp; exact ⟨_, rfl⟩),
    fun L u => u_lenQ u (gd0 rfl) 16 rfl (.tmp 15) 34 rfl rfl Tryd.underlying34,
    fun L u => u_bin u (gd0 rfl) 17 rfl .sub 3 3 (.tmp 16) (.const (.int .i64 1)) rfl rfl rfl (eqg_int _ _ _ _ _ _ _ _) (Value.int .i64 31) (fun w => i_sub _ _ _ _ (by decide) (by decide) w),
    fun L u => u_atS u (gd0 rfl) 18 rfl 34 (.tmp 14) (.tmp 17) rfl rfl rfl (k := 31) rfl Tryd.underlying34 i5 (by decide) 31 rfl,
    fun L u => u_load1 u (gd0 rfl) 19 rfl 5 (.tmp 18) rfl rfl rfl Tryd.underlying5 rfl _ rfl,
    fun L u => u_bin u (gd0 rfl) 20 rfl .or 5 5 (.tmp 19) (.const (.int .u8 128)) rfl rfl rfl (eqg_int _ _ _ _ _ _ _ _) (Value.int .u8 (((fun i => Y i ((((y).val : Nat) : Int))) 31) + 128)) (fun w => i_orB _ _ _ hb0 hb1 rfl w),
    fun L u => u_atS u (gd0 rfl) 21 rfl 34 (.tmp 14) (.tmp 17) rfl rfl rfl (k := 31) rfl Tryd.underlying34 i5 (by decide) 31 rfl,
    fun L u => u_store1 u (gd0 rfl) 5 (.tmp 21) (.tmp 20) rfl rfl rfl rfl rfl i5 (lk rfl) rfl _ rfl,
    trivial⟩ [(3, .sli 10 0 32 32)] [(10, by31 (fun i => Y i ((((y).val : Nat) : Int))) ((((fun i => Y i ((((y).val : Nat) : Int))) 31) + 128)))] ⟨rfl, trivial⟩ ⟨rfl, trivial⟩ rfl (fun a w h => ?_)
  refine then_norm ?_
  refine go_region h hm [eS 22 (.sli 10 0 32 32), eS 2 (.sli 10 0 32 32)] (by kernel_rfl) ⟨
    fun L u => u_copy u (gd0 rfl) 22 rfl (.tmp 3) (Or.inl rfl) rfl (fun x c hp => by cases hp; exact ⟨_, rfl⟩),
    fun L u => u_copy u (gd0 rfl) 2 rfl (.tmp 22) (Or.inr rfl) rfl (fun x c hp => by cases hp; exact ⟨_, rfl⟩),
    trivial⟩ [(2, .sli 10 0 32 32)] [(10, by31 (fun i => Y i ((((y).val : Nat) : Int))) ((((fun i => Y i ((((y).val : Nat) : Int))) 31) + 128)))] ⟨rfl, trivial⟩ ⟨rfl, trivial⟩ rfl (fun a w h => ?_)
  refine wp_ret ?_
  refine ret_newC (cs := by31 (fun i => Y i ((((y).val : Nat) : Int))) ((((fun i => Y i ((((y).val : Nat) : Int))) 31) + 128))) h 2 rfl (lk rfl) 10 rfl rfl ?_
  refine by31_ext ?_ ?_; (intro i hi; show Y i _ = Y i _; exact (e_on (a := ⟨x, y⟩) i hi).symm); (show Y 31 _ + 128 = Y 31 _; exact (code_top (a := ⟨x, y⟩) hp).symm)
set_option maxRecDepth 100000 in
set_option maxHeartbeats 4000000 in
theorem e_enc_off {w : World} (hT : Tab w) {A B : Int} {t : Bool} (hF : ∀ {w : World}, Tab w → Calls Tryd.prog 10 [.agg (nc A ++ nc B ++ [Value.bool t]).toArray].toArray w fun e w' => e = .returned (.bool false) ∧ Below w.heap.size w w') : Calls Tryd.prog 11 [.agg (nc (A) ++ nc (B) ++ [Value.bool t]).toArray].toArray w fun e w' => NewC (fun i => Y i (((code (Ep.o m2) : Nat)) : Int)) w e w' := by
  refine enter (args := [.agg (nc (A) ++ nc (B) ++ [Value.bool t]).toArray]) Tryd.func11 rfl 23 rfl (lk rfl) (fun a h => ?_)
  refine go_region h hm [eN 1 (nc (A) ++ nc (B) ++ [Value.bool t]), eS 2 (.val ((Value.slice none 0 0)))] (by kernel_rfl) ⟨
    fun L u => u_box u (gd0 rfl) 26 (.tmp 0) rfl 1 rfl rfl rfl _ rfl,
    fun L u => u_move u (gd0 rfl) 2 rfl (.const (.slice none 0 0)) (Or.inr rfl) rfl,
    trivial⟩ [(1, .ptr 1 0)] [(1, nc (A) ++ nc (B) ++ [Value.bool t])] ⟨rfl, trivial⟩ ⟨rfl, trivial⟩ rfl (fun a w h => ?_)
  refine wp_seq ?_
  refine go_region h hm [eS 4 (.val (.agg (nc (A) ++ nc (B) ++ [Value.bool t]).toArray)), eS 5 (.val (Value.bool false)), eS 6 (.val (Value.bool true))] (by kernel_rfl) ⟨
    fun L u => u_load u (gd0 rfl) 4 rfl 26 (.tmp 1) rfl rfl rfl Tryd.underlying26 rfl i26 (lk rfl) _ rfl,
    fun L u => u_call u (gd0 rfl) 5 rfl 10 #[(.tmp 4)] #[26] rfl [.agg (nc (A) ++ nc (B) ++ [Value.bool t]).toArray] rfl (cE10 _) (Value.bool false) (fun w hb => hF (hT.keep (Bs.kp_of hb))),
    fun L u => u_not u (gd0 rfl) 6 rfl 4 (.tmp 5) rfl rfl _ rfl,
    trivial⟩ [(1, .ptr 1 0), (6, .val (Value.bool true))] [(1, nc (A) ++ nc (B) ++ [Value.bool t])] ⟨rfl, rfl, trivial⟩ ⟨rfl, trivial⟩ rfl (fun a w h => ?_)
  refine go_cond h true rfl (fun ht => ?_) (fun hf => ?_)
  case refine_2 => cases hf
  refine go_end h hm [eS 7 (.val (.agg (pcE (Ep.o m2)).toArray)), eM 1 (pcE (Ep.o m2))] (by kernel_rfl) ⟨
    fun L u => u_call u (gd0 rfl) 7 rfl 25 #[] #[] rfl [] rfl (cE25 _) (.agg (pcE (Ep.o m2)).toArray) (fun w hb => e_neutral),
    fun L u => u_store u (gd0 rfl) 26 (.tmp 1) (.tmp 7) rfl rfl rfl (vs := pcE (Ep.o m2)) rfl rfl i26 (lk rfl) rfl _ rfl,
    trivial⟩ [(1, .ptr 1 0)] [(1, pcE (Ep.o m2))] ⟨rfl, trivial⟩ ⟨rfl, trivial⟩ rfl (fun a w h => ?_)
  refine then_norm ?_
  refine go_region h hm [eS 8 (.ptr 1 4), eS 9 (.val (.agg (gc ((Ep.o m2).y)).toArray)), (⟨some (10, ⟨undef, some (10, 0), some (32, 32)⟩), some (10, by32 (fun i => Y i (((((Ep.o m2).y).val : Nat) : Int))))⟩ : OE), eS 3 (.sli 10 0 32 32)] (by kernel_rfl) ⟨
    fun L u => u_field u (gd0 rfl) 8 rfl 26 (.tmp 1) 1 rfl rfl rfl Tryd.underlying26 rfl i24 _ rfl,
    fun L u => u_load u (gd0 rfl) 9 rfl 24 (.tmp 8) rfl rfl rfl Tryd.underlying24 rfl i24 (lk rfl) _ rfl,
    fun L u => u_callN u (gd0 rfl) 10 rfl rfl 26 #[(.tmp 9)] #[24] rfl [.val (.agg (gc ((Ep.o m2).y)).toArray)] rfl (fun vs w => callFunc_enter Tryd.func26 (by kernel_rfl) (by kernel_rfl) vs w) (some (32, 32)) (by32 (fun i => Y i (((((Ep.o m2).y).val : Nat) : Int)))) (fun β a w hr => e_PutC (((((Ep.o m2).y).val : Nat) : Int)) w),
    fun L u => u_copy u (gd0 rfl) 3 rfl (.tmp 10) (Or.inr rfl) rfl (fun x c hp => by cases hp; exact ⟨_, rfl⟩),
    trivial⟩ [(1, .ptr 1 0), (3, .sli 10 0 32 32)] [(1, pcE (Ep.o m2)), (10, by32 (fun i => Y i (((((Ep.o m2).y).val : Nat) : Int))))] ⟨rfl, rfl, trivial⟩ ⟨rfl, rfl, trivial⟩ rfl (fun a w h => ?_)
  refine wp_seq ?_
  refine go_region h hm [eS 11 (.ptr 1 0), eS 12 (.val (.agg (gc ((Ep.o m2).x)).toArray)), eS 13 (.val (Value.bool false))] (by kernel_rfl) ⟨
    fun L u => u_field u (gd0 rfl) 11 rfl 26 (.tmp 1) 0 rfl rfl rfl Tryd.underlying26 rfl i24 _ rfl,
    fun L u => u_load u (gd0 rfl) 12 rfl 24 (.tmp 11) rfl rfl rfl Tryd.underlying24 rfl i24 (lk rfl) _ rfl,
    fun L u => u_call u (gd0 rfl) 13 rfl 27 #[(.tmp 12)] #[24] rfl [.agg (gc ((Ep.o m2).x)).toArray] rfl (cE27 _) (Value.bool false) (fun w hb => e_odd_f (x := (Ep.o m2).x) ox_even),
    trivial⟩ [(3, .sli 10 0 32 32), (13, .val (Value.bool false))] [(10, by32 (fun i => Y i (((((Ep.o m2).y).val : Nat) : Int))))] ⟨rfl, rfl, trivial⟩ ⟨rfl, trivial⟩ rfl (fun a w h => ?_)
  refine go_cond h false rfl (fun ht => ?_) (fun hf => ?_)
  case refine_1 => cases ht
  refine wp_skip ?_
  refine then_norm ?_
  refine go_region h hm [eS 22 (.sli 10 0 32 32), eS 2 (.sli 10 0 32 32)] (by kernel_rfl) ⟨
    fun L u => u_copy u (gd0 rfl) 22 rfl (.tmp 3) (Or.inl rfl) rfl (fun x c hp => by cases hp; exact ⟨_, rfl⟩),
    fun L u => u_copy u (gd0 rfl) 2 rfl (.tmp 22) (Or.inr rfl) rfl (fun x c hp => by cases hp; exact ⟨_, rfl⟩),
    trivial⟩ [(2, .sli 10 0 32 32)] [(10, by32 (fun i => Y i (((((Ep.o m2).y).val : Nat) : Int))))] ⟨rfl, trivial⟩ ⟨rfl, trivial⟩ rfl (fun a w h => ?_)
  refine wp_ret ?_
  refine ret_newC (cs := by32 (fun i => Y i (((((Ep.o m2).y).val : Nat) : Int)))) h 2 rfl (lk rfl) 10 rfl rfl ?_
  refine by32_ext ?_; intro i hi; show Y i _ = Y i _; rw [code_o]; rfl
theorem e_EncC {w : World} (hT : Tab w) {X Y : Int} (hX : Num X) (hY : Num Y) (t : Bool) : Calls Tryd.prog 11 [.agg (rc X Y t).toArray].toArray w fun e w' => NewC (fun i => Go.Proofs.YtolehamdaceikabDoor.Y i (((code (rpE X Y t) : Nat)) : Int)) w e w' := by
  by_cases h : fmdE X Y t = false
  · rw [fmdE_rp h]
    refine e_enc_off hT (fun hT => ?_)
    have f := e_Formed hT hX hY t
    rw [h] at f
    exact f
  · have h2 : fmdE X Y t = true := by simpa using h
    have hd : t = false ∧ X < md 2 ∧ Y < md 2 ∧ (kc Y : Fin m2) * kc Y - kc X * kc X = 1 + ed * (kc X * kc X * (kc Y * kc Y)) := of_decide_eq_true h2
    rw [show rpE X Y t = ⟨kc X, kc Y⟩ from if_pos hd, hd.1, rc, nc_gc hX.lo hd.2.1, nc_gc hY.lo hd.2.2.1]
    obtain ⟨a, b, _⟩ := Y_top (y := (((kc Y : Fin m2).val : Nat) : Int)) (by omega) (y_int ⟨kc X, kc Y⟩)
    by_cases hp : (kc X : Fin m2).val % 2 = 0
    · exact e_enc_even hT hd.2.2.2 hp
    · exact e_enc_odd hT hd.2.2.2 (by omega) a b
end Go.Proofs.YtolehamdaceikabDoor
namespace Go.Proofs.YtolehamdaceikabDoor
open Go.RowKit
attribute [local go_sem ↓] Go.wp_at_zero Go.wp_at_succ

def cb (a b : Int) (k : Nat) : Bool := C a b k == 1
theorem cb_zero (a b : Int) : cb a b 0 = false := by unfold cb; rw [C_zero]; rfl
theorem ref_add_0 (a b : Int) (k : Nat) (h : cb a b k = false) : IntKind.u64.wrap (L k a + L k b) = L k (a + b) := by
  have c1 := C_lo a b k
  have c2 := C_hi a b k
  have hc : C a b k = 0 := by unfold cb at h; simp at h; omega
  have e := add_word a b k
  rw [hc, Int.add_zero] at e
  rw [IntKind.wrap_u64, e]
theorem ref_add_1 (a b : Int) (k : Nat) (h : cb a b k = true) : IntKind.u64.wrap (IntKind.u64.wrap (L k a + L k b) + 1) = L k (a + b) := by
  have hc : C a b k = 1 := by unfold cb at h; simpa using h
  have e := add_word a b k
  rw [hc] at e
  rw [IntKind.wrap_u64, IntKind.wrap_u64, ← e]
  omega
theorem ref_add_o0 (a b : Int) (k : Nat) (h : cb a b k = false) : decide (L k (a + b) < L k a) = cb a b (k + 1) := by
  have c1 := C_lo a b k
  have c2 := C_hi a b k
  have hc : C a b k = 0 := by unfold cb at h; simp at h; omega
  have e := add_word a b k
  have f := add_carry a b k
  have a1 := L_lo k a
  have a2 := L_hi k a
  have b1 := L_lo k b
  have b2 := L_hi k b
  rw [hc] at e f
  unfold cb
  rw [← f, ← e, Bool.eq_iff_iff]
  simp only [decide_eq_true_eq, beq_iff_eq]
  omega
theorem ref_add_o1 (a b : Int) (k : Nat) (h : cb a b k = true) : (decide (IntKind.u64.wrap (L k a + L k b) < L k a) || (L k (a + b) == 0)) = cb a b (k + 1) := by
  have hc : C a b k = 1 := by unfold cb at h; simpa using h
  have e := add_word a b k
  have f := add_carry a b k
  have a1 := L_lo k a
  have a2 := L_hi k a
  have b1 := L_lo k b
  have b2 := L_hi k b
  rw [hc] at e f
  unfold cb
  rw [← f, ← e, IntKind.wrap_u64, Bool.eq_iff_iff]
  simp only [decide_eq_true_eq, beq_iff_eq, Bool.or_eq_true]
  omega

set_option maxHeartbeats 1000000 in
theorem ref_add_walk (a b : Int) (w : World) :
    Calls Tryd.prog 32 #[.agg #[.int .u64 (L 0 a), .int .u64 (L 1 a), .int .u64 (L 2 a), .int .u64 (L 3 a)], .agg #[.int .u64 (L 0 b), .int .u64 (L 1 b), .int .u64 (L 2 b), .int .u64 (L 3 b)]] w fun e w' =>
      e = .returned (.tuple #[.agg #[.int .u64 (L 0 (a + b)), .int .u64 (L 1 (a + b)), .int .u64 (L 2 (a + b)), .int .u64 (L 3 (a + b))], .bool (cb a b 4)]) ∧ Below w.heap.size w w' := by
  go_enter Tryd.func32, Tryd.ntmps32
  go_wp2
  go_loopw [7, 8] (fun s7 s8 w' => (s8 = .int .i64 0 ∧ s7 = .bool false ∧ ∃ n, w' = ((((w.alloc (.cells #[.int .u64 (L 0 a), .int .u64 (L 1 a), .int .u64 (L 2 a), .int .u64 (L 3 a)] 24)).alloc (.cells #[.int .u64 (L 0 b), .int .u64 (L 1 b), .int .u64 (L 2 b), .int .u64 (L 3 b)] 24)).alloc (.cells #[.int .u64 0, .int .u64 0, .int .u64 0, .int .u64 0] 24)).alloc (.cells #[.int .u64 0, .int .u64 0, .int .u64 0, .int .u64 0] 24)).drewN n) ∨ (s8 = .int .i64 1 ∧ s7 = .bool (cb a b 1) ∧ ∃ n, w' = ((((w.alloc (.cells #[.int .u64 (L 0 a), .int .u64 (L 1 a), .int .u64 (L 2 a), .int .u64 (L 3 a)] 24)).alloc (.cells #[.int .u64 (L 0 b), .int .u64 (L 1 b), .int .u64 (L 2 b), .int .u64 (L 3 b)] 24)).alloc (.cells #[.int .u64 0, .int .u64 0, .int .u64 0, .int .u64 0] 24)).alloc (.cells #[.int .u64 (L 0 (a + b)), .int .u64 0, .int .u64 0, .int .u64 0] 24)).drewN n) ∨ (s8 = .int .i64 2 ∧ s7 = .bool (cb a b 2) ∧ ∃ n, w' = ((((w.alloc (.cells #[.int .u64 (L 0 a), .int .u64 (L 1 a), .int .u64 (L 2 a), .int .u64 (L 3 a)] 24)).alloc (.cells #[.int .u64 (L 0 b), .int .u64 (L 1 b), .int .u64 (L 2 b), .int .u64 (L 3 b)] 24)).alloc (.cells #[.int .u64 0, .int .u64 0, .int .u64 0, .int .u64 0] 24)).alloc (.cells #[.int .u64 (L 0 (a + b)), .int .u64 (L 1 (a + b)), .int .u64 0, .int .u64 0] 24)).drewN n) ∨ (s8 = .int .i64 3 ∧ s7 = .bool (cb a b 3) ∧ ∃ n, w' = ((((w.alloc (.cells #[.int .u64 (L 0 a), .int .u64 (L 1 a), .int .u64 (L 2 a), .int .u64 (L 3 a)] 24)).alloc (.cells #[.int .u64 (L 0 b), .int .u64 (L 1 b), .int .u64 (L 2 b), .int .u64 (L 3 b)] 24)).alloc (.cells #[.int .u64 0, .int .u64 0, .int .u64 0, .int .u64 0] 24)).alloc (.cells #[.int .u64 (L 0 (a + b)), .int .u64 (L 1 (a + b)), .int .u64 (L 2 (a + b)), .int .u64 0] 24)).drewN n) ∨ (s8 = .int .i64 4 ∧ s7 = .bool (cb a b 4) ∧ ∃ n, w' = ((((w.alloc (.cells #[.int .u64 (L 0 a), .int .u64 (L 1 a), .int .u64 (L 2 a), .int .u64 (L 3 a)] 24)).alloc (.cells #[.int .u64 (L 0 b), .int .u64 (L 1 b), .int .u64 (L 2 b), .int .u64 (L 3 b)] 24)).alloc (.cells #[.int .u64 0, .int .u64 0, .int .u64 0, .int .u64 0] 24)).alloc (.cells #[.int .u64 (L 0 (a + b)), .int .u64 (L 1 (a + b)), .int .u64 (L 2 (a + b)), .int .u64 (L 3 (a + b))] 24)).drewN n)) (fun _ s8 _ => 4 - (intOf s8).toNat)
  case atStart => exact Or.inl ⟨rfl, rfl, 0, rfl⟩
  case round =>
    rcases hrel with ⟨rfl, rfl, n, rfl⟩ | ⟨rfl, rfl, n, rfl⟩ | ⟨rfl, rfl, n, rfl⟩ | ⟨rfl, rfl, n, rfl⟩ | ⟨rfl, rfl, n, rfl⟩
    · have q1 := ref_add_0 a b 0 (cb_zero a b)
      have q2 : decide (L 0 (a + b) < L 0 a) = cb a b 1 := ref_add_o0 a b 0 (cb_zero a b)
      go_wp2
      go_quiet (fail)
      go_wp2
      exact ⟨Or.inr (Or.inl ⟨rfl, (by first | rfl | exact congrArg Value.bool q3.symm), n + nq, set_out (by simp) _ _ _ _ _⟩), by simp [intOf]⟩
    · cases hcb : cb a b 1
      · have q1 := ref_add_0 a b 1 hcb
        have q2 : decide (L 1 (a + b) < L 1 a) = cb a b 2 := ref_add_o0 a b 1 hcb
        go_wp2
        go_quiet (fail)
        go_wp2
        exact ⟨Or.inr (Or.inr (Or.inl ⟨rfl, (by first | rfl | exact congrArg Value.bool q3.symm), n + nq, set_out (by simp) _ _ _ _ _⟩)), by simp [intOf]⟩
      · have q1 := ref_add_1 a b 1 hcb
        have q2 := ref_add_o1 a b 1 hcb
        by_cases o : IntKind.u64.wrap (L 1 a + L 1 b) < L 1 a
        · have q3 : cb a b 2 = true := by rw [← q2]; simp [o]
          clear q2
          go_wp2
          go_quiet (fail)
          go_wp2
          exact ⟨Or.inr (Or.inr (Or.inl ⟨rfl, (by first | rfl | exact congrArg Value.bool q3.symm), n + nq, set_out (by simp) _ _ _ _ _⟩)), by simp [intOf]⟩
        · have o2 : decide (IntKind.u64.wrap (L 1 a + L 1 b) < L 1 a) = false := by simpa using o
          have q3 : (L 1 (a + b) == 0) = cb a b 2 := by rw [o2, Bool.false_or] at q2; exact q2
          clear q2
          go_wp2
          go_quiet (fail)
          go_wp2
          exact ⟨Or.inr (Or.inr (Or.inl ⟨rfl, (by first | rfl | exact congrArg Value.bool q3.symm), n + nq, set_out (by simp) _ _ _ _ _⟩)), by simp [intOf]⟩
    · cases hcb : cb a b 2
      · have q1 := ref_add_0 a b 2 hcb
        have q2 : decide (L 2 (a + b) < L 2 a) = cb a b 3 := ref_add_o0 a b 2 hcb
        go_wp2
        go_quiet (fail)
        go_wp2
        exact ⟨Or.inr (Or.inr (Or.inr (Or.inl ⟨rfl, (by first | rfl | exact congrArg Value.bool q3.symm), n + nq, set_out (by simp) _ _ _ _ _⟩))), by simp [intOf]⟩
      · have q1 := ref_add_1 a b 2 hcb
        have q2 := ref_add_o1 a b 2 hcb
        by_cases o : IntKind.u64.wrap (L 2 a + L 2 b) < L 2 a
        · have q3 : cb a b 3 = true := by rw [← q2]; simp [o]
          clear q2
          go_wp2
          go_quiet (fail)
          go_wp2
          exact ⟨Or.inr (Or.inr (Or.inr (Or.inl ⟨rfl, (by first | rfl | exact congrArg Value.bool q3.symm), n + nq, set_out (by simp) _ _ _ _ _⟩))), by simp [intOf]⟩
        · have o2 : decide (IntKind.u64.wrap (L 2 a + L 2 b) < L 2 a) = false := by simpa using o
          have q3 : (L 2 (a + b) == 0) = cb a b 3 := by rw [o2, Bool.false_or] at q2; exact q2
          clear q2
          go_wp2
          go_quiet (fail)
          go_wp2
          exact ⟨Or.inr (Or.inr (Or.inr (Or.inl ⟨rfl, (by first | rfl | exact congrArg Value.bool q3.symm), n + nq, set_out (by simp) _ _ _ _ _⟩))), by simp [intOf]⟩
    · cases hcb : cb a b 3
      · have q1 := ref_add_0 a b 3 hcb
        have q2 : decide (L 3 (a + b) < L 3 a) = cb a b 4 := ref_add_o0 a b 3 hcb
        go_wp2
        go_quiet (fail)
        go_wp2
        exact ⟨Or.inr (Or.inr (Or.inr (Or.inr (⟨rfl, (by first | rfl | exact congrArg Value.bool q3.symm), n + nq, set_out (by simp) _ _ _ _ _⟩)))), by simp [intOf]⟩
      · have q1 := ref_add_1 a b 3 hcb
        have q2 := ref_add_o1 a b 3 hcb
        by_cases o : IntKind.u64.wrap (L 3 a + L 3 b) < L 3 a
        · have q3 : cb a b 4 = true := by rw [← q2]; simp [o]
          clear q2
          go_wp2
          go_quiet (fail)
          go_wp2
          exact ⟨Or.inr (Or.inr (Or.inr (Or.inr (⟨rfl, (by first | rfl | exact congrArg Value.bool q3.symm), n + nq, set_out (by simp) _ _ _ _ _⟩)))), by simp [intOf]⟩
        · have o2 : decide (IntKind.u64.wrap (L 3 a + L 3 b) < L 3 a) = false := by simpa using o
          have q3 : (L 3 (a + b) == 0) = cb a b 4 := by rw [o2, Bool.false_or] at q2; exact q2
          clear q2
          go_wp2
          go_quiet (fail)
          go_wp2
          exact ⟨Or.inr (Or.inr (Or.inr (Or.inr (⟨rfl, (by first | rfl | exact congrArg Value.bool q3.symm), n + nq, set_out (by simp) _ _ _ _ _⟩)))), by simp [intOf]⟩
    · go_wp2
      go_returns
      refine ⟨rfl, ?_⟩
      repeat' (first | (with_reducible exact Below.refl _ _) | (with_reducible refine K.drewN ?_ _) | (with_reducible refine K.drew ?_) | (with_reducible refine K.alloc ?_ _) | (with_reducible refine K.set ?_ ?_ _) | (simp; done) | (simp; omega))
end Go.Proofs.YtolehamdaceikabDoor
namespace Go.Proofs.YtolehamdaceikabDoor
open Go.RowKit
attribute [local go_sem ↓] Go.wp_at_zero Go.wp_at_succ

def db (a b : Int) (k : Nat) : Bool := D a b k == 1
theorem db_zero (a b : Int) : db a b 0 = false := by unfold db; rw [D_zero]; rfl
theorem db_f {a b : Int} {k : Nat} (h : db a b k = false) : D a b k = 0 := by
  have c1 := D_lo a b k
  have c2 := D_hi a b k
  unfold db at h; simp at h; omega
theorem db_t {a b : Int} {k : Nat} (h : db a b k = true) : D a b k = 1 := by unfold db at h; simpa using h
theorem ref_sub_0 (a b : Int) (k : Nat) (h : db a b k = false) : IntKind.u64.wrap (L k a - L k b) = L k (a - b) := by
  have e := sub_word a b k
  rw [db_f h, Int.sub_zero] at e
  rw [IntKind.wrap_u64, e]
theorem ref_sub_1 (a b : Int) (k : Nat) (h : db a b k = true) : IntKind.u64.wrap (IntKind.u64.wrap (L k a - L k b) - 1) = L k (a - b) := by
  have e := sub_word a b k
  rw [db_t h] at e
  rw [IntKind.wrap_u64, IntKind.wrap_u64, ← e]
  omega
theorem ref_sub_o0 (a b : Int) (k : Nat) (h : db a b k = false) : decide (L k a < L k b) = db a b (k + 1) := by
  have f := sub_carry a b k
  rw [db_f h, Int.add_zero] at f
  unfold db
  rw [← f, Bool.eq_iff_iff]
  simp only [decide_eq_true_eq, beq_iff_eq]
  split <;> omega
theorem ref_sub_o1 (a b : Int) (k : Nat) (h : db a b k = true) : (decide (L k a < L k b) || (IntKind.u64.wrap (L k a - L k b) == 0)) = db a b (k + 1) := by
  have f := sub_carry a b k
  have a1 := L_lo k a
  have a2 := L_hi k a
  have b1 := L_lo k b
  have b2 := L_hi k b
  rw [db_t h] at f
  unfold db
  rw [← f, IntKind.wrap_u64, Bool.eq_iff_iff]
  simp only [decide_eq_true_eq, beq_iff_eq, Bool.or_eq_true]
  split <;> omega

set_option maxHeartbeats 1000000 in
theorem ref_sub_walk (a b : Int) (w : World) :
    Calls Tryd.prog 31 #[.agg #[.int .u64 (L 0 a), .int .u64 (L 1 a), .int .u64 (L 2 a), .int .u64 (L 3 a)], .agg #[.int .u64 (L 0 b), .int .u64 (L 1 b), .int .u64 (L 2 b), .int .u64 (L 3 b)]] w fun e w' =>
      e = .returned (.tuple #[.agg #[.int .u64 (L 0 (a - b)), .int .u64 (L 1 (a - b)), .int .u64 (L 2 (a - b)), .int .u64 (L 3 (a - b))], .bool (db a b 4)]) ∧ Below w.heap.size w w' := by
  go_enter Tryd.func31, Tryd.ntmps31
  go_wp2
  go_loopw [7, 8] (fun s7 s8 w' => (s8 = .int .i64 0 ∧ s7 = .bool false ∧ ∃ n, w' = ((((w.alloc (.cells #[.int .u64 (L 0 a), .int .u64 (L 1 a), .int .u64 (L 2 a), .int .u64 (L 3 a)] 24)).alloc (.cells #[.int .u64 (L 0 b), .int .u64 (L 1 b), .int .u64 (L 2 b), .int .u64 (L 3 b)] 24)).alloc (.cells #[.int .u64 0, .int .u64 0, .int .u64 0, .int .u64 0] 24)).alloc (.cells #[.int .u64 0, .int .u64 0, .int .u64 0, .int .u64 0] 24)).drewN n) ∨ (s8 = .int .i64 1 ∧ s7 = .bool (db a b 1) ∧ ∃ n, w' = ((((w.alloc (.cells #[.int .u64 (L 0 a), .int .u64 (L 1 a), .int .u64 (L 2 a), .int .u64 (L 3 a)] 24)).alloc (.cells #[.int .u64 (L 0 b), .int .u64 (L 1 b), .int .u64 (L 2 b), .int .u64 (L 3 b)] 24)).alloc (.cells #[.int .u64 0, .int .u64 0, .int .u64 0, .int .u64 0] 24)).alloc (.cells #[.int .u64 (L 0 (a - b)), .int .u64 0, .int .u64 0, .int .u64 0] 24)).drewN n) ∨ (s8 = .int .i64 2 ∧ s7 = .bool (db a b 2) ∧ ∃ n, w' = ((((w.alloc (.cells #[.int .u64 (L 0 a), .int .u64 (L 1 a), .int .u64 (L 2 a), .int .u64 (L 3 a)] 24)).alloc (.cells #[.int .u64 (L 0 b), .int .u64 (L 1 b), .int .u64 (L 2 b), .int .u64 (L 3 b)] 24)).alloc (.cells #[.int .u64 0, .int .u64 0, .int .u64 0, .int .u64 0] 24)).alloc (.cells #[.int .u64 (L 0 (a - b)), .int .u64 (L 1 (a - b)), .int .u64 0, .int .u64 0] 24)).drewN n) ∨ (s8 = .int .i64 3 ∧ s7 = .bool (db a b 3) ∧ ∃ n, w' = ((((w.alloc (.cells #[.int .u64 (L 0 a), .int .u64 (L 1 a), .int .u64 (L 2 a), .int .u64 (L 3 a)] 24)).alloc (.cells #[.int .u64 (L 0 b), .int .u64 (L 1 b), .int .u64 (L 2 b), .int .u64 (L 3 b)] 24)).alloc (.cells #[.int .u64 0, .int .u64 0, .int .u64 0, .int .u64 0] 24)).alloc (.cells #[.int .u64 (L 0 (a - b)), .int .u64 (L 1 (a - b)), .int .u64 (L 2 (a - b)), .int .u64 0] 24)).drewN n) ∨ (s8 = .int .i64 4 ∧ s7 = .bool (db a b 4) ∧ ∃ n, w' = ((((w.alloc (.cells #[.int .u64 (L 0 a), .int .u64 (L 1 a), .int .u64 (L 2 a), .int .u64 (L 3 a)] 24)).alloc (.cells #[.int .u64 (L 0 b), .int .u64 (L 1 b), .int .u64 (L 2 b), .int .u64 (L 3 b)] 24)).alloc (.cells #[.int .u64 0, .int .u64 0, .int .u64 0, .int .u64 0] 24)).alloc (.cells #[.int .u64 (L 0 (a - b)), .int .u64 (L 1 (a - b)), .int .u64 (L 2 (a - b)), .int .u64 (L 3 (a - b))] 24)).drewN n)) (fun _ s8 _ => 4 - (intOf s8).toNat)
  case atStart => exact Or.inl ⟨rfl, rfl, 0, rfl⟩
  case round =>
    rcases hrel with ⟨rfl, rfl, n, rfl⟩ | ⟨rfl, rfl, n, rfl⟩ | ⟨rfl, rfl, n, rfl⟩ | ⟨rfl, rfl, n, rfl⟩ | ⟨rfl, rfl, n, rfl⟩
    · have q1 := ref_sub_0 a b 0 (db_zero a b)
      have q2 : decide (L 0 a < L 0 b) = db a b 1 := ref_sub_o0 a b 0 (db_zero a b)
      go_wp2
      go_quiet (fail)
      go_wp2
      go_quiet (fail)
      go_wp2
      exact ⟨Or.inr (Or.inl ⟨rfl, (by first | rfl | exact congrArg Value.bool q3.symm), _, set_out (by simp) _ _ _ _ _⟩), by simp [intOf]⟩
    · cases hcb : db a b 1
      · have q1 := ref_sub_0 a b 1 hcb
        have q2 : decide (L 1 a < L 1 b) = db a b 2 := ref_sub_o0 a b 1 hcb
        go_wp2
        go_quiet (fail)
        go_wp2
        go_quiet (fail)
        go_wp2
        exact ⟨Or.inr (Or.inr (Or.inl ⟨rfl, (by first | rfl | exact congrArg Value.bool q3.symm), _, set_out (by simp) _ _ _ _ _⟩)), by simp [intOf]⟩
      · have q1 := ref_sub_1 a b 1 hcb
        have q2 := ref_sub_o1 a b 1 hcb
        by_cases o : L 1 a < L 1 b
        · have q3 : db a b 2 = true := by rw [← q2]; simp [o]
          clear q2
          go_wp2
          go_quiet (fail)
          go_wp2
          go_quiet (fail)
          go_wp2
          exact ⟨Or.inr (Or.inr (Or.inl ⟨rfl, (by first | rfl | exact congrArg Value.bool q3.symm), _, set_out (by simp) _ _ _ _ _⟩)), by simp [intOf]⟩
        · have o2 : decide (L 1 a < L 1 b) = false := by simpa using o
          have q3 : (IntKind.u64.wrap (L 1 a - L 1 b) == 0) = db a b 2 := by rw [o2, Bool.false_or] at q2; exact q2
          clear q2
          go_wp2
          go_quiet (fail)
          go_wp2
          go_quiet (fail)
          go_wp2
          exact ⟨Or.inr (Or.inr (Or.inl ⟨rfl, (by first | rfl | exact congrArg Value.bool q3.symm), _, set_out (by simp) _ _ _ _ _⟩)), by simp [intOf]⟩
    · cases hcb : db a b 2
      · have q1 := ref_sub_0 a b 2 hcb
        have q2 : decide (L 2 a < L 2 b) = db a b 3 := ref_sub_o0 a b 2 hcb
        go_wp2
        go_quiet (fail)
        go_wp2
        go_quiet (fail)
        go_wp2
        exact ⟨Or.inr (Or.inr (Or.inr (Or.inl ⟨rfl, (by first | rfl | exact congrArg Value.bool q3.symm), _, set_out (by simp) _ _ _ _ _⟩))), by simp [intOf]⟩
      · have q1 := ref_sub_1 a b 2 hcb
        have q2 := ref_sub_o1 a b 2 hcb
        by_cases o : L 2 a < L 2 b
        · have q3 : db a b 3 = true := by rw [← q2]; simp [o]
          clear q2
          go_wp2
          go_quiet (fail)
          go_wp2
          go_quiet (fail)
          go_wp2
          exact ⟨Or.inr (Or.inr (Or.inr (Or.inl ⟨rfl, (by first | rfl | exact congrArg Value.bool q3.symm), _, set_out (by simp) _ _ _ _ _⟩))), by simp [intOf]⟩
        · have o2 : decide (L 2 a < L 2 b) = false := by simpa using o
          have q3 : (IntKind.u64.wrap (L 2 a - L 2 b) == 0) = db a b 3 := by rw [o2, Bool.false_or] at q2; exact q2
          clear q2
          go_wp2
          go_quiet (fail)
          go_wp2
          go_quiet (fail)
          go_wp2
          exact ⟨Or.inr (Or.inr (Or.inr (Or.inl ⟨rfl, (by first | rfl | exact congrArg Value.bool q3.symm), _, set_out (by simp) _ _ _ _ _⟩))), by simp [intOf]⟩
    · cases hcb : db a b 3
      · have q1 := ref_sub_0 a b 3 hcb
        have q2 : decide (L 3 a < L 3 b) = db a b 4 := ref_sub_o0 a b 3 hcb
        go_wp2
        go_quiet (fail)
        go_wp2
        go_quiet (fail)
        go_wp2
        exact ⟨Or.inr (Or.inr (Or.inr (Or.inr (⟨rfl, (by first | rfl | exact congrArg Value.bool q3.symm), _, set_out (by simp) _ _ _ _ _⟩)))), by simp [intOf]⟩
      · have q1 := ref_sub_1 a b 3 hcb
        have q2 := ref_sub_o1 a b 3 hcb
        by_cases o : L 3 a < L 3 b
        · have q3 : db a b 4 = true := by rw [← q2]; simp [o]
          clear q2
          go_wp2
          go_quiet (fail)
          go_wp2
          go_quiet (fail)
          go_wp2
          exact ⟨Or.inr (Or.inr (Or.inr (Or.inr (⟨rfl, (by first | rfl | exact congrArg Value.bool q3.symm), _, set_out (by simp) _ _ _ _ _⟩)))), by simp [intOf]⟩
        · have o2 : decide (L 3 a < L 3 b) = false := by simpa using o
          have q3 : (IntKind.u64.wrap (L 3 a - L 3 b) == 0) = db a b 4 := by rw [o2, Bool.false_or] at q2; exact q2
          clear q2
          go_wp2
          go_quiet (fail)
          go_wp2
          go_quiet (fail)
          go_wp2
          exact ⟨Or.inr (Or.inr (Or.inr (Or.inr (⟨rfl, (by first | rfl | exact congrArg Value.bool q3.symm), _, set_out (by simp) _ _ _ _ _⟩)))), by simp [intOf]⟩
    · go_wp2
      go_returns
      refine ⟨rfl, ?_⟩
      repeat' (first | (with_reducible exact Below.refl _ _) | (with_reducible refine K.drewN ?_ _) | (with_reducible refine K.drew ?_) | (with_reducible refine K.alloc ?_ _) | (with_reducible refine K.set ?_ ?_ _) | (simp; done) | (simp; omega))

theorem ref_add_any {a b : Int} (ha : Num a) (hb : Num b) (w : World) :
    Calls Tryd.prog 32 #[.agg #[.int .u64 (L 0 a), .int .u64 (L 1 a), .int .u64 (L 2 a), .int .u64 (L 3 a)], .agg #[.int .u64 (L 0 b), .int .u64 (L 1 b), .int .u64 (L 2 b), .int .u64 (L 3 b)]] w fun e w' =>
      e = .returned (.tuple #[.agg #[.int .u64 (L 0 (a + b)), .int .u64 (L 1 (a + b)), .int .u64 (L 2 (a + b)), .int .u64 (L 3 (a + b))], .bool (over a b)]) ∧ Below w.heap.size w w' := by
  rw [← C_four ha hb]; exact ref_add_walk a b w
theorem ref_sub_any {a b : Int} (ha : Num a) (hb : Num b) (w : World) :
    Calls Tryd.prog 31 #[.agg #[.int .u64 (L 0 a), .int .u64 (L 1 a), .int .u64 (L 2 a), .int .u64 (L 3 a)], .agg #[.int .u64 (L 0 b), .int .u64 (L 1 b), .int .u64 (L 2 b), .int .u64 (L 3 b)]] w fun e w' =>
      e = .returned (.tuple #[.agg #[.int .u64 (L 0 (a - b)), .int .u64 (L 1 (a - b)), .int .u64 (L 2 (a - b)), .int .u64 (L 3 (a - b))], .bool (under a b)]) ∧ Below w.heap.size w w' := by
  rw [← D_four ha hb]; exact ref_sub_walk a b w
end Go.Proofs.YtolehamdaceikabDoor
namespace Go.Proofs.YtolehamdaceikabDoor
open Go.RowKit
attribute [local go_sem ↓] Go.wp_at_zero Go.wp_at_succ

def lessW (x0 x1 x2 x3 y0 y1 y2 y3 : Int) : Bool :=
  if x3 = y3 then if x2 = y2 then if x1 = y1 then if x0 = y0 then false else decide (x0 < y0) else decide (x1 < y1) else decide (x2 < y2) else decide (x3 < y3)

set_option maxHeartbeats 2000000 in
theorem less_walk (x0 x1 x2 x3 y0 y1 y2 y3 : Int) (w : World) :
    Calls Tryd.prog 30 #[.agg #[.int .u64 x0, .int .u64 x1, .int .u64 x2, .int .u64 x3], .agg #[.int .u64 y0, .int .u64 y1, .int .u64 y2, .int .u64 y3]] w fun e w' => e = .returned (.bool (lessW x0 x1 x2 x3 y0 y1 y2 y3)) ∧ Below w.heap.size w w' := by
  go_enter Tryd.func30, Tryd.ntmps30
  go_wp2
  refine wp_loop_rounds 5 ?_
  by_cases g3 : x3 = y3
  case neg =>
    have b3 : (x3 == y3) = false := by simpa using g3
    have n3 : (x3 != y3) = true := by simpa using g3
    rw [rounds_succ]
    go_wp2
    go_quiet (fail)
    go_wp2
    go_quiet (fail)
    go_wp2
    go_ret
    refine ⟨ret_bool (by unfold lessW; simp [*]), ?_⟩
    repeat' (first | (with_reducible exact Below.refl _ _) | (with_reducible refine K.drewN ?_ _) | (with_reducible refine K.drew ?_) | (with_reducible refine K.alloc ?_ _) | (with_reducible refine K.set ?_ ?_ _) | (simp; done) | (simp; omega))
  subst g3
  rw [rounds_succ]
  go_wp2
  go_quiet (fail)
  go_wp2
  by_cases g2 : x2 = y2
  case neg =>
    have b2 : (x2 == y2) = false := by simpa using g2
    have n2 : (x2 != y2) = true := by simpa using g2
    rw [rounds_succ]
    go_wp2
    go_quiet (fail)
    go_wp2
    go_quiet (fail)
    go_wp2
    go_ret
    refine ⟨ret_bool (by unfold lessW; simp [*]), ?_⟩
    repeat' (first | (with_reducible exact Below.refl _ _) | (with_reducible refine K.drewN ?_ _) | (with_reducible refine K.drew ?_) | (with_reducible refine K.alloc ?_ _) | (with_reducible refine K.set ?_ ?_ _) | (simp; done) | (simp; omega))
  subst g2
  rw [rounds_succ]
  go_wp2
  go_quiet (fail)
  go_wp2
  by_cases g1 : x1 = y1
  case neg =>
    have b1 : (x1 == y1) = false := by simpa using g1
    have n1 : (x1 != y1) = true := by simpa using g1
    rw [rounds_succ]
    go_wp2
    go_quiet (fail)
    go_wp2
    go_quiet (fail)
    go_wp2
    go_ret
    refine ⟨ret_bool (by unfold lessW; simp [*]), ?_⟩
    repeat' (first | (with_reducible exact Below.refl _ _) | (with_reducible refine K.drewN ?_ _) | (with_reducible refine K.drew ?_) | (with_reducible refine K.alloc ?_ _) | (with_reducible refine K.set ?_ ?_ _) | (simp; done) | (simp; omega))
  subst g1
  rw [rounds_succ]
  go_wp2
  go_quiet (fail)
  go_wp2
  by_cases g0 : x0 = y0
  case neg =>
    have b0 : (x0 == y0) = false := by simpa using g0
    have n0 : (x0 != y0) = true := by simpa using g0
    rw [rounds_succ]
    go_wp2
    go_quiet (fail)
    go_wp2
    go_quiet (fail)
    go_wp2
    go_ret
    refine ⟨ret_bool (by unfold lessW; simp [*]), ?_⟩
    repeat' (first | (with_reducible exact Below.refl _ _) | (with_reducible refine K.drewN ?_ _) | (with_reducible refine K.drew ?_) | (with_reducible refine K.alloc ?_ _) | (with_reducible refine K.set ?_ ?_ _) | (simp; done) | (simp; omega))
  subst g0
  rw [rounds_succ]
  go_wp2
  go_quiet (fail)
  go_wp2
  rw [rounds_succ]
  go_wp2
  go_ret
  refine ⟨ret_bool (by unfold lessW; simp), ?_⟩
  repeat' (first | (with_reducible exact Below.refl _ _) | (with_reducible refine K.drewN ?_ _) | (with_reducible refine K.drew ?_) | (with_reducible refine K.alloc ?_ _) | (with_reducible refine K.set ?_ ?_ _) | (simp; done) | (simp; omega))

theorem lessW_eq {a b : Int} (ha : Num a) (hb : Num b) : lessW (L 0 a) (L 1 a) (L 2 a) (L 3 a) (L 0 b) (L 1 b) (L 2 b) (L 3 b) = decide (a < b) := by
  obtain ⟨a1, a2⟩ := ha
  obtain ⟨b1, b2⟩ := hb
  rw [L0, L1, L2, L3, L0, L1, L2, L3]
  unfold lessW
  unfold M at *
  (repeat' split) <;> (first | (symm; rw [decide_eq_false_iff_not]; omega) | (rw [decide_eq_decide]; omega))
theorem less_any {a b : Int} (ha : Num a) (hb : Num b) (w : World) :
    Calls Tryd.prog 30 #[.agg #[.int .u64 (L 0 a), .int .u64 (L 1 a), .int .u64 (L 2 a), .int .u64 (L 3 a)], .agg #[.int .u64 (L 0 b), .int .u64 (L 1 b), .int .u64 (L 2 b), .int .u64 (L 3 b)]] w fun e w' => e = .returned (.bool (decide (a < b))) ∧ Below w.heap.size w w' := by
  rw [← lessW_eq ha hb]; exact less_walk _ _ _ _ _ _ _ _ w
theorem less_true {a b : Int} (ha : Num a) (hb : Num b) (h : a < b) (w : World) :
    Calls Tryd.prog 30 #[.agg #[.int .u64 (L 0 a), .int .u64 (L 1 a), .int .u64 (L 2 a), .int .u64 (L 3 a)], .agg #[.int .u64 (L 0 b), .int .u64 (L 1 b), .int .u64 (L 2 b), .int .u64 (L 3 b)]] w fun e w' => e = .returned (.bool true) ∧ Below w.heap.size w w' := by
  have g := less_any ha hb w
  rw [decide_eq_true h] at g
  exact g
theorem less_false {a b : Int} (ha : Num a) (hb : Num b) (h : ¬ a < b) (w : World) :
    Calls Tryd.prog 30 #[.agg #[.int .u64 (L 0 a), .int .u64 (L 1 a), .int .u64 (L 2 a), .int .u64 (L 3 a)], .agg #[.int .u64 (L 0 b), .int .u64 (L 1 b), .int .u64 (L 2 b), .int .u64 (L 3 b)]] w fun e w' => e = .returned (.bool false) ∧ Below w.heap.size w w' := by
  have g := less_any ha hb w
  rw [decide_eq_false h] at g
  exact g

end Go.Proofs.YtolehamdaceikabDoor
namespace Go.Proofs.YtolehamdaceikabDoor
open Go.RowKit
attribute [local go_sem ↓] Go.wp_at_zero Go.wp_at_succ

set_option maxHeartbeats 1000000 in
theorem ref_mod_0 (w : World) : Calls Tryd.prog 16 #[.int .i64 0] w fun e w' => e = .returned (.agg #[.int .u64 (L 0 (md 0)), .int .u64 (L 1 (md 0)), .int .u64 (L 2 (md 0)), .int .u64 (L 3 (md 0))]) ∧ Below w.heap.size w w' := by
  have e0 : L 0 (md 0) = 18446744073709551615 := by decide
  have e1 : L 1 (md 0) = 4294967295 := by decide
  have e2 : L 2 (md 0) = 0 := by decide
  have e3 : L 3 (md 0) = 18446744069414584321 := by decide
  rw [e0, e1, e2, e3]
  go_enter Tryd.func16, Tryd.ntmps16
  go_wp2
  go_returns
  refine ⟨rfl, ?_⟩
  go_grown
set_option maxHeartbeats 1000000 in
theorem ref_mod_1 (w : World) : Calls Tryd.prog 16 #[.int .i64 1] w fun e w' => e = .returned (.agg #[.int .u64 (L 0 (md 1)), .int .u64 (L 1 (md 1)), .int .u64 (L 2 (md 1)), .int .u64 (L 3 (md 1))]) ∧ Below w.heap.size w w' := by
  have e0 : L 0 (md 1) = 17562291160714782033 := by decide
  have e1 : L 1 (md 1) = 13611842547513532036 := by decide
  have e2 : L 2 (md 1) = 18446744073709551615 := by decide
  have e3 : L 3 (md 1) = 18446744069414584320 := by decide
  rw [e0, e1, e2, e3]
  go_enter Tryd.func16, Tryd.ntmps16
  go_wp2
  go_returns
  refine ⟨rfl, ?_⟩
  go_grown
set_option maxHeartbeats 1000000 in
theorem ref_mod_2 (w : World) : Calls Tryd.prog 16 #[.int .i64 2] w fun e w' => e = .returned (.agg #[.int .u64 (L 0 (md 2)), .int .u64 (L 1 (md 2)), .int .u64 (L 2 (md 2)), .int .u64 (L 3 (md 2))]) ∧ Below w.heap.size w w' := by
  have e0 : L 0 (md 2) = 18446744073709551597 := by decide
  have e1 : L 1 (md 2) = 18446744073709551615 := by decide
  have e2 : L 2 (md 2) = 18446744073709551615 := by decide
  have e3 : L 3 (md 2) = 9223372036854775807 := by decide
  rw [e0, e1, e2, e3]
  go_enter Tryd.func16, Tryd.ntmps16
  go_wp2
  go_returns
  refine ⟨rfl, ?_⟩
  go_grown
set_option maxHeartbeats 1000000 in
theorem ref_mod_3 (w : World) : Calls Tryd.prog 16 #[.int .i64 3] w fun e w' => e = .returned (.agg #[.int .u64 (L 0 (md 3)), .int .u64 (L 1 (md 3)), .int .u64 (L 2 (md 3)), .int .u64 (L 3 (md 3))]) ∧ Below w.heap.size w w' := by
  have e0 : L 0 (md 3) = 6346243789798364141 := by decide
  have e1 : L 1 (md 3) = 1503914060200516822 := by decide
  have e2 : L 2 (md 3) = 0 := by decide
  have e3 : L 3 (md 3) = 1152921504606846976 := by decide
  rw [e0, e1, e2, e3]
  go_enter Tryd.func16, Tryd.ntmps16
  go_wp2
  go_returns
  refine ⟨rfl, ?_⟩
  go_grown
set_option maxHeartbeats 1000000 in
theorem ref_mod_none (k : Int) (h : k < 0 ∨ 3 < k) (w : World) : Calls Tryd.prog 16 #[.int .i64 k] w fun e w' => e = .returned (.agg #[.int .u64 (L 0 (md k)), .int .u64 (L 1 (md k)), .int .u64 (L 2 (md k)), .int .u64 (L 3 (md k))]) ∧ Below w.heap.size w w' := by
  have e : md k = 0 := by unfold md; (repeat' split) <;> omega
  have z0 : L 0 0 = 0 := by decide
  have z1 : L 1 0 = 0 := by decide
  have z2 : L 2 0 = 0 := by decide
  have z3 : L 3 0 = 0 := by decide
  rw [e, z0, z1, z2, z3]
  have b0 : (k == 0) = false := beq_eq_false_iff_ne.2 (by omega)
  have b1 : (k == 1) = false := beq_eq_false_iff_ne.2 (by omega)
  have b2 : (k == 2) = false := beq_eq_false_iff_ne.2 (by omega)
  have b3 : (k == 3) = false := beq_eq_false_iff_ne.2 (by omega)
  clear h e z0 z1 z2 z3
  go_enter Tryd.func16, Tryd.ntmps16
  go_wp2
  go_returns
  refine ⟨rfl, ?_⟩
  go_grown
theorem ref_mod_any (k : Int) (w : World) : Calls Tryd.prog 16 #[.int .i64 k] w fun e w' => e = .returned (.agg #[.int .u64 (L 0 (md k)), .int .u64 (L 1 (md k)), .int .u64 (L 2 (md k)), .int .u64 (L 3 (md k))]) ∧ Below w.heap.size w w' := by
  have hk : k = 0 ∨ k = 1 ∨ k = 2 ∨ k = 3 ∨ (k < 0 ∨ 3 < k) := by omega
  rcases hk with rfl | rfl | rfl | rfl | hk
  · exact ref_mod_0 w
  · exact ref_mod_1 w
  · exact ref_mod_2 w
  · exact ref_mod_3 w
  · exact ref_mod_none k hk w

set_option maxHeartbeats 4000000 in
theorem ref_plus_any {m a b : Int} (hm : Num m) (ha : 0 ≤ a) (ha2 : a < m) (hb : 0 ≤ b) (hb2 : b < m) (w : World) :
    Calls Tryd.prog 18 #[.agg #[.int .u64 (L 0 m), .int .u64 (L 1 m), .int .u64 (L 2 m), .int .u64 (L 3 m)], .agg #[.int .u64 (L 0 a), .int .u64 (L 1 a), .int .u64 (L 2 a), .int .u64 (L 3 a)], .agg #[.int .u64 (L 0 b), .int .u64 (L 1 b), .int .u64 (L 2 b), .int .u64 (L 3 b)]] w fun e w' => e = .returned (.agg #[.int .u64 (L 0 ((a + b) % m)), .int .u64 (L 1 ((a + b) % m)), .int .u64 (L 2 ((a + b) % m)), .int .u64 (L 3 ((a + b) % m))]) ∧ Below w.heap.size w w' := by
  have na : Num a := ⟨ha, by have := hm.hi; omega⟩
  have nb : Num b := ⟨hb, by have := hm.hi; omega⟩
  have hmh := hm.hi
  by_cases o : M ≤ a + b
  · have ho : over a b = true := by unfold over; simpa using o
    have hr : (a + b) % m = a + b - m := mod_once (by omega) (by omega)
    rw [hr]
    clear hr o hmh
    go_enter Tryd.func18, Tryd.ntmps18
    go_wp2_with fail
    with_reducible refine Calls.mono (ref_add_any na nb _) ?_
    rw [ho]
    rintro e w1 ⟨rfl, hb1⟩
    have A1 := (((Arr.new w (w.heap.size) rfl 24 (L 0 m) (L 1 m) (L 2 m) (L 3 m)).alloc _).alloc _).alloc _ |>.keep hb1
    have R1 := (ArrW.new _ (w.heap.size + 1 + 1 + 1) (by simp) 24 0 0 0 0).keep hb1
    have hw1 : Below w.heap.size w w1 := K.call (K.alloc (K.alloc (K.alloc (K.alloc (Below.refl _ w) _) _) _) _) hb1
    clear hb1
    have ⟨ka, ka0, ka1, ka2, ka3⟩ := A1
    have ⟨kr, kr0, kr1, kr2, kr3, kf0, kf1, kf2, kf3⟩ := R1
    go_wp2_with fail
    with_reducible refine Calls.mono (ref_sub_walk (a + b) m _) ?_
    clear ka ka0 ka1 ka2 ka3 kr kr0 kr1 kr2 kr3 kf0 kf1 kf2 kf3
    rintro e w3 ⟨rfl, hb3⟩
    have hw3 : Below w.heap.size w w3 := K.call (K.alloc hw1 _) hb3
    have ⟨kr, kr0, kr1, kr2, kr3, kf0, kf1, kf2, kf3⟩ := (R1.alloc _).keep hb3
    clear hb3
    go_wp2_with fail
    exact bodyPost_ret (v := .agg #[.int .u64 (L 0 (a + b - m)), .int .u64 (L 1 (a + b - m)), .int .u64 (L 2 (a + b - m)), .int .u64 (L 3 (a + b - m))]) (by simp [results, Tryd.results18, go_sem, kr, kr0, kr1, kr2, kr3]) rfl ⟨rfl, K.alloc (K.set4 hw3 (by omega) _ _ _ _) _⟩
  · have ho : over a b = false := by unfold over; simpa using o
    have ns : Num (a + b) := ⟨by omega, by omega⟩
    by_cases l : a + b < m
    · have hr : (a + b) % m = a + b := mod_low (by omega) l
      rw [hr]
      clear hr o hmh
      go_enter Tryd.func18, Tryd.ntmps18
      go_wp2_with fail
      with_reducible refine Calls.mono (ref_add_any na nb _) ?_
      rw [ho]
      rintro e w1 ⟨rfl, hb1⟩
      have A1 := (((Arr.new w (w.heap.size) rfl 24 (L 0 m) (L 1 m) (L 2 m) (L 3 m)).alloc _).alloc _).alloc _ |>.keep hb1
      have R1 := (ArrW.new _ (w.heap.size + 1 + 1 + 1) (by simp) 24 0 0 0 0).keep hb1
      have hw1 : Below w.heap.size w w1 := K.call (K.alloc (K.alloc (K.alloc (K.alloc (Below.refl _ w) _) _) _) _) hb1
      clear hb1
      have ⟨ka, ka0, ka1, ka2, ka3⟩ := A1
      have ⟨kr, kr0, kr1, kr2, kr3, kf0, kf1, kf2, kf3⟩ := R1
      go_wp2_with fail
      with_reducible refine Calls.mono (less_true ns hm (by omega) _) ?_
      clear ka ka0 ka1 ka2 ka3 kr kr0 kr1 kr2 kr3 kf0 kf1 kf2 kf3
      rintro e w2 ⟨rfl, hb2⟩
      have A2 := (A1.alloc _).keep hb2
      have R2 := (R1.alloc _).keep hb2
      have S2 := (Arr.new w1 w1.heap.size rfl 24 (L 0 (a + b)) (L 1 (a + b)) (L 2 (a + b)) (L 3 (a + b))).keep hb2
      have hw2 : Below w.heap.size w w2 := K.call (K.alloc hw1 _) hb2
      clear A1 R1 hb2 hw1
      have ⟨ka, ka0, ka1, ka2, ka3⟩ := A2
      have ⟨ks, ks0, ks1, ks2, ks3⟩ := S2
      have ⟨kr, kr0, kr1, kr2, kr3, kf0, kf1, kf2, kf3⟩ := R2
      go_wp2_with fail
      exact bodyPost_ret (v := .agg #[.int .u64 (L 0 (a + b)), .int .u64 (L 1 (a + b)), .int .u64 (L 2 (a + b)), .int .u64 (L 3 (a + b))]) (by simp [results, Tryd.results18, go_sem, kr0, kr1, kr2, kr3]) rfl ⟨rfl, K.set4 hw2 (by omega) _ _ _ _⟩
    · have hr : (a + b) % m = a + b - m := mod_once (by omega) (by omega)
      rw [hr]
      clear hr o hmh
      go_enter Tryd.func18, Tryd.ntmps18
      go_wp2_with fail
      with_reducible refine Calls.mono (ref_add_any na nb _) ?_
      rw [ho]
      rintro e w1 ⟨rfl, hb1⟩
      have A1 := (((Arr.new w (w.heap.size) rfl 24 (L 0 m) (L 1 m) (L 2 m) (L 3 m)).alloc _).alloc _).alloc _ |>.keep hb1
      have R1 := (ArrW.new _ (w.heap.size + 1 + 1 + 1) (by simp) 24 0 0 0 0).keep hb1
      have hw1 : Below w.heap.size w w1 := K.call (K.alloc (K.alloc (K.alloc (K.alloc (Below.refl _ w) _) _) _) _) hb1
      clear hb1
      have ⟨ka, ka0, ka1, ka2, ka3⟩ := A1
      have ⟨kr, kr0, kr1, kr2, kr3, kf0, kf1, kf2, kf3⟩ := R1
      go_wp2_with fail
      with_reducible refine Calls.mono (less_false ns hm (by omega) _) ?_
      clear ka ka0 ka1 ka2 ka3 kr kr0 kr1 kr2 kr3 kf0 kf1 kf2 kf3
      rintro e w2 ⟨rfl, hb2⟩
      have A2 := (A1.alloc _).keep hb2
      have R2 := (R1.alloc _).keep hb2
      have S2 := (Arr.new w1 w1.heap.size rfl 24 (L 0 (a + b)) (L 1 (a + b)) (L 2 (a + b)) (L 3 (a + b))).keep hb2
      have hw2 : Below w.heap.size w w2 := K.call (K.alloc hw1 _) hb2
      clear A1 R1 hb2 hw1
      have ⟨ka, ka0, ka1, ka2, ka3⟩ := A2
      have ⟨ks, ks0, ks1, ks2, ks3⟩ := S2
      have ⟨kr, kr0, kr1, kr2, kr3, kf0, kf1, kf2, kf3⟩ := R2
      go_wp2_with fail
      with_reducible refine Calls.mono (ref_sub_walk (a + b) m _) ?_
      clear ka ka0 ka1 ka2 ka3 kr kr0 kr1 kr2 kr3 kf0 kf1 kf2 kf3 ks ks0 ks1 ks2 ks3
      rintro e w3 ⟨rfl, hb3⟩
      have hw3 : Below w.heap.size w w3 := K.call hw2 hb3
      have ⟨kr, kr0, kr1, kr2, kr3, kf0, kf1, kf2, kf3⟩ := R2.keep hb3
      clear hb3
      go_wp2_with fail
      exact bodyPost_ret (v := .agg #[.int .u64 (L 0 (a + b - m)), .int .u64 (L 1 (a + b - m)), .int .u64 (L 2 (a + b - m)), .int .u64 (L 3 (a + b - m))]) (by simp [results, Tryd.results18, go_sem, kr, kr0, kr1, kr2, kr3]) rfl ⟨rfl, K.alloc (K.set4 hw3 (by omega) _ _ _ _) _⟩
end Go.Proofs.YtolehamdaceikabDoor
