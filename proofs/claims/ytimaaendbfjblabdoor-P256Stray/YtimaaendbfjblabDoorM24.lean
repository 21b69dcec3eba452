/- What the document's own numbers modulo the moduli are, as the statements of layer 8 ask them. Small facts that every walk wants: all of them lie in Base. Rows of bytes in memory. Rows of bytes that may grow. Bytes that are handed in, and bytes that are appended to a row of one's own (no function of the program is named). What the program's own Encode answers at a point that isn't formed. The statements of layer 8, at whatever numbers and points come. How the parameters, and the table of the moduli, are read before the call. How a point of two numbers and a truth is read before the call, and behind it. -/
import Derived.Test.YtimaaendbfjblabDoorM21
import Derived.Test.YtimaaendbfjblabDoorM22
import Derived.Test.YtimaaendbfjblabDoorM23
import Derived.Test.YtimaaendbfjblabDoorM02
import Derived.Test.YtimaaendbfjblabDoorM15
import Derived.Deep.AppendLies
import Derived.OwnWalk
import Derived.Deep.MidRow
import Derived.Test.YtimaaendbfjblabDoorTie
import Derived.Test.YtimaaendbfjblabDoorCards
import Derived.ProofKit
import Derived.LaidMore
import Derived.MakeChecks
import Derived.Lib.LaidTab
import Derived.Stop.LaidErr
import Derived.Laws.IdiomArrays
import Derived.OpenShut
import Derived.Stop.Joined
namespace Go.Proofs.YtimaaendbfjblabDoor
open Go.RowKit

theorem md_mod1 : md 1 = (mod1 : Int) := by kernel_rfl
theorem nat_num {k : Nat} (h : k < 2 ^ 256) : Num (k : Int) := ⟨by omega, by unfold M; omega⟩
theorem h_md (w : World) : Calls Tryd.prog 16 [.int .i64 1].toArray w fun e w' => e = .returned (.agg (nc (mod1 : Int)).toArray) ∧ Below w.heap.size w w' := by
  rw [← md_mod1]
  exact ref_mod_any 1 w
theorem h_fold {k : Nat} (hk : k < 2 ^ 256) (w : World) : Calls Tryd.prog 17 [.int .i64 1, .agg (nc (k : Int)).toArray].toArray w fun e w' => e = .returned (.agg (nc ((k % mod1 : Nat) : Int)).toArray) ∧ Below w.heap.size w w' := by
  rw [Int.natCast_emod, ← md_mod1]
  exact ref_fold_any (k := 1) (nat_num hk) (by rw [md_mod1]; decide +kernel) (by kernel_rfl) w
theorem nc_wrap (a : Int) : nc (a - M) = nc a := by
  unfold nc
  have h : ∀ k, k < 4 → L k (a - M) = L k a := fun k hk => by
    unfold L M B
    rcases (show k = 0 ∨ k = 1 ∨ k = 2 ∨ k = 3 by omega) with rfl | rfl | rfl | rfl <;> omega
  rw [h 0 (by omega), h 1 (by omega), h 2 (by omega), h 3 (by omega)]
theorem h_add_less {k1 k2 : Nat} (h1 : k1 < 2 ^ 256) (h2 : k2 < 2 ^ 256) (h : k1 + k2 < 2 ^ 256) (w : World) : Calls Tryd.prog 29 [.agg (nc (k1 : Int)).toArray, .agg (nc (k2 : Int)).toArray].toArray w fun e w' => e = .returned (.tuple [.agg (nc ((k1 + k2 : Nat) : Int)).toArray, .bool false].toArray) ∧ Below w.heap.size w w' := by
  have g := ref_add_any (nat_num h1) (nat_num h2) w
  have e : over (k1 : Int) (k2 : Int) = false := decide_eq_false (by unfold M; omega)
  rw [e] at g
  rw [Int.natCast_add]
  exact g
theorem h_add_over {k1 k2 : Nat} (h1 : k1 < 2 ^ 256) (h2 : k2 < 2 ^ 256) (h : 2 ^ 256 ≤ k1 + k2) (w : World) : Calls Tryd.prog 29 [.agg (nc (k1 : Int)).toArray, .agg (nc (k2 : Int)).toArray].toArray w fun e w' => e = .returned (.tuple [.agg (nc ((k1 + k2 - 2 ^ 256 : Nat) : Int)).toArray, .bool true].toArray) ∧ Below w.heap.size w w' := by
  have g := ref_add_any (nat_num h1) (nat_num h2) w
  have e : over (k1 : Int) (k2 : Int) = true := decide_eq_true (by unfold M; omega)
  rw [e] at g
  rw [show ((k1 + k2 - 2 ^ 256 : Nat) : Int) = (k1 : Int) + k2 - M by unfold M; omega, nc_wrap]
  exact g
theorem h_mul {k1 k2 : Nat} (h1 : k1 < 2 ^ 256) (h2 : k2 < 2 ^ 256) (w : World) : Calls Tryd.prog 8 [.int .i64 1, .agg (nc (k1 : Int)).toArray, .agg (nc (k2 : Int)).toArray].toArray w fun e w' => e = .returned (.agg (nc ((k1 * k2 % mod1 : Nat) : Int)).toArray) ∧ Below w.heap.size w w' := by
  rw [Int.natCast_emod, Int.natCast_mul, ← md_mod1]
  exact ref_mulf_any (k := 1) ⟨by decide, by decide⟩ (nat_num h1) (nat_num h2) w
end Go.Proofs.YtimaaendbfjblabDoor

namespace Go.Proofs.YtimaaendbfjblabDoor
open Go.RowKit

/-- n bytes lie from an address on. -/
structure Rd (w : World) (b o n : Nat) (f : Nat → Int) : Prop where
  c : ∀ i, i < n → w.cell? ⟨b, o + i, none⟩ = some (.int .u8 (f i))
/-- A row of n bytes of its own, that may be written. -/
structure Row8 (w : World) (b n : Nat) (f : Nat → Int) : Prop where
  lt : b < w.heap.size
  c : ∀ i, i < n → w.cell? ⟨b, i, none⟩ = some (.int .u8 (f i))
  z : ∀ i, i < n → w.frozen? ⟨b, i, none⟩ = false
theorem Rd.keep {W w1 : World} {b o n : Nat} {f : Nat → Int} (h : Rd W b o n f) (hb : Below W.heap.size W w1) : Rd w1 b o n f :=
  ⟨fun i hi => later hb (h.c i hi)⟩
theorem Rd.part {w : World} {b o n : Nat} {f : Nat → Int} (h : Rd w b o n f) (k m : Nat) (hk : k + m ≤ n) : Rd w b (o + k) m (fun i => f (k + i)) :=
  ⟨fun i hi => by have := h.c (k + i) (by omega); rwa [← Nat.add_assoc] at this⟩
theorem Rd.congr {w : World} {b o n : Nat} {f g : Nat → Int} (h : Rd w b o n f) (e : ∀ i, i < n → f i = g i) : Rd w b o n g :=
  ⟨fun i hi => by rw [← e i hi]; exact h.c i hi⟩
theorem Row8.keep {W w1 : World} {b n : Nat} {f : Nat → Int} (h : Row8 W b n f) (hb : Below W.heap.size W w1) : Row8 w1 b n f :=
  ⟨Nat.lt_of_lt_of_le h.lt hb.size, fun i hi => later hb (h.c i hi), fun i hi => (hb.frozen (p := ⟨b, i, none⟩) h.lt).trans (h.z i hi)⟩
theorem Row8.rd {w : World} {b n : Nat} {f : Nat → Int} (h : Row8 w b n f) : Rd w b 0 n f := ⟨fun i hi => by rw [Nat.zero_add]; exact h.c i hi⟩
theorem Row8.congr {w : World} {b n : Nat} {f g : Nat → Int} (h : Row8 w b n f) (e : ∀ i, i < n → f i = g i) : Row8 w b n g :=
  ⟨h.lt, fun i hi => by rw [← e i hi]; exact h.c i hi, h.z⟩
theorem Row8.store {w : World} {b n : Nat} {f : Nat → Int} (h : Row8 w b n f) (k : Nat) (hk : k < n) (v : Int) : Row8 (w.setCell ⟨b, k, none⟩ (.int .u8 v)) b n (fun i => if i = k then v else f i) := by
  refine ⟨by simpa using h.lt, fun i hi => ?_, fun i hi => by rw [World.frozen?_setCell]; exact h.z i hi⟩
  have hc := h.c i hi
  have hcs := h.c k hk
  by_cases e : i = k
  · subst e; simp [go_sem, hc]
  · simp [go_sem, hc, e]
end Go.Proofs.YtimaaendbfjblabDoor
namespace Go.Proofs.YtimaaendbfjblabDoor
open Go.RowKit

theorem info8 : (Tryd.prog.info? 5).map (fun i => (i.zero, i.size, i.bytes)) = some (some (.int .u8 0), 1, 1) := by kernel_rfl
def cells8 (l : List Nat) : List Value := l.map (fun (x : Nat) => Value.int .u8 (x : Int))
theorem own_keep {w w' : World} {base n : Nat} {v : Value} {xs : List Value} (h : w.ownsRow base 5 1 v n xs) (hb : Below w.heap.size w w') : w'.ownsRow base 5 1 v n xs := by
  refine ⟨h.1, ?_⟩
  rcases h.2 with h0 | ⟨g, cap, cur, rfl, hg, hh, h1, h2, h3, h4⟩
  · exact Or.inl h0
  · exact Or.inr ⟨g, cap, cur, rfl, hg, by rw [hb.block g (h.lt g rfl).2]; exact hh, h1, h2, h3, h4⟩

theorem own_shape {w : World} {base n : Nat} {v : Value} {xs : List Value} (h : w.ownsRow base 5 1 v n xs) : ∃ a cap, v = .slice a n cap := by
  rcases h.2 with ⟨rfl, rfl⟩ | ⟨g, cap, cur, rfl, _⟩
  · exact ⟨_, _, rfl⟩
  · exact ⟨_, _, rfl⟩
theorem own_rd {w : World} {base n : Nat} {v : Value} {f : Nat → Int} {xs : List Value} (h : w.ownsRow base 5 1 v n xs) (hx : ∀ j, j < n → xs[j]? = some (.int .u8 (f j))) (hn : 0 < n) : ∃ g cap, v = .slice (some ⟨g, 0, none⟩) n cap ∧ base ≤ g ∧ Row8 w g n f := by
  rcases h.2 with ⟨_, h0⟩ | ⟨g, cap, cur, rfl, hg, _⟩
  · omega
  · refine ⟨g, cap, rfl, hg, (h.lt g rfl).2, fun j hj => ?_, fun j _ => h.frozenAt j⟩
    rw [h.cellAt j (by omega)]; exact hx j hj
theorem own_cap {w : World} {base n g cap : Nat} {xs : List Value} (h : w.ownsRow base 5 1 (.slice (some ⟨g, 0, none⟩) n cap) n xs) : n ≤ cap := by
  rcases h.2 with ⟨h1, _⟩ | ⟨g', cap', cur, h1, _, _, hle, _⟩
  · cases h1
  · cases h1; exact hle


theorem cells8_at (l : List Nat) (i : Nat) (h : i < l.length) : (cells8 l)[i]? = some (Value.int .u8 ((l.getD i 0 : Nat) : Int)) := by
  simp [cells8, h]
theorem getD_lt {l : List Nat} (h : ∀ x ∈ l, x < 256) (i : Nat) : l.getD i 0 < 256 := by
  rw [List.getD_eq_getElem?_getD]
  by_cases hi : i < l.length
  · rw [List.getElem?_eq_getElem hi]; exact h _ (List.getElem_mem hi)
  · rw [List.getElem?_eq_none (by omega)]; simp
theorem Rd.first {w : World} {b o n : Nat} {f : Nat → Int} (h : Rd w b o n f) (m : Nat) (hm : m ≤ n) : Rd w b o m f := ⟨fun i hi => h.c i (by omega)⟩
/-- A text's bytes, laid anew. -/
theorem rd_bytes (w : World) (s : ByteArray) (c : Nat) (z : Nat × Nat) : Rd (w.drew.alloc (.cells (bytesRow s c) 5 z)) w.heap.size 0 s.size (fun i => ((s.data.toList.getD i 0).toNat : Int)) := by
  refine ⟨fun i hi => ?_⟩
  have hb := bytesRow_at s c i hi
  have hh : (w.drew.alloc (.cells (bytesRow s c) 5 z)).heap[w.heap.size]? = some (.cells (bytesRow s c) 5 z) := by
    show (w.heap.push (.cells (bytesRow s c) 5 z))[w.heap.size]? = _
    simp
  have hg : s.data.toList.getD i 0 = s.data[i] := by
    rw [List.getD_eq_getElem?_getD, List.getElem?_eq_getElem (by simpa using hi)]
    rfl
  rw [Nat.zero_add, hg, ← hb]
  unfold World.cell?
  dsimp only
  rw [hh]
  first | rfl | simp
end Go.Proofs.YtimaaendbfjblabDoor
namespace Go.Proofs.YtimaaendbfjblabDoor
open Go.RowKit

/-- Some bytes: none, or n from an address on. -/
structure BA (w : World) (a : Option Addr) (n : Nat) (f : Nat → Nat) : Prop where
  lt : ∀ i, f i < 256
  at_ : n = 0 ∨ ∃ b o, a = some ⟨b, o, none⟩ ∧ Rd w b o n (fun i => ((f i : Nat) : Int))
theorem BA.keep {W w1 : World} {a : Option Addr} {n : Nat} {f : Nat → Nat} (h : BA W a n f) (hb : Below W.heap.size W w1) : BA w1 a n f :=
  ⟨h.lt, h.at_.elim Or.inl fun ⟨b, o, e, hr⟩ => Or.inr ⟨b, o, e, hr.keep hb⟩⟩
/-- The first n bytes of f, as a list. -/
def fl (f : Nat → Nat) (n : Nat) : List Nat := (List.range n).map f
theorem fl_len (f : Nat → Nat) (n : Nat) : (fl f n).length = n := by simp [fl]
theorem fl_at (f : Nat → Nat) {n i : Nat} (h : i < n) : (fl f n)[i]? = some (f i) := by simp [fl, h]
theorem fl_lt {f : Nat → Nat} (hf : ∀ i, f i < 256) (n : Nat) : ∀ x ∈ fl f n, x < 256 := by
  intro x hx
  simp only [fl, List.mem_map] at hx
  obtain ⟨i, _, rfl⟩ := hx
  exact hf i
theorem cells8_len (l : List Nat) : (cells8 l).length = l.length := by simp [cells8]
theorem cells8_one (l : List Nat) : ∀ u ∈ cells8 l, u.oneCell' = true := by
  intro u hu
  simp only [cells8, List.mem_map] at hu
  obtain ⟨i, _, rfl⟩ := hu
  rfl
theorem run_append_zero {P : Program} (w : World) (base : Nat) (t ty e : TypeId) (i : TypeInfo) (size : Nat) (ht : P.underlying t = some (.slice e)) (hi : P.info? e = some i)
    (v : Value) (n : Nat) (xs : List Value) (hown : w.ownsRow base e size v n xs) (x : Option Addr) (c : Nat) :
    (Builtin.append_ #[t, t] ty #[v, .slice x 0 c]).run P w = .ok v w := by
  rcases hown.2 with ⟨rfl, rfl⟩ | ⟨g, cap, cur, rfl, _, _, hnc, _⟩
  · cases x <;> simp [Builtin.append_, run_underlying ht, sizeOf, typeInfo, hi, Builtin.lenOf, Builtin.firstCells, loadCells, loadCellsFrom]
  · cases x <;> simp [Builtin.append_, run_underlying ht, sizeOf, typeInfo, hi, Builtin.lenOf, Builtin.firstCells, hnc, storeCells, loadCells, loadCellsFrom]
/-- Bytes that are appended to a row of one's own. -/
theorem run_app {W : World} {base : Nat} {v : Value} {n : Nat} {l : List Nat} (hown : W.ownsRow base 5 1 v n (cells8 l)) {x : Option Addr} {m c : Nat} {f : Nat → Nat} (hx : BA W x m f) (hb : n + m ≤ 1000000) (hbase : base ≤ W.heap.size) (ty : TypeId) :
    ∃ v' w', (Builtin.append_ #[34, 34] ty #[v, .slice x m c]).run Tryd.prog W = .ok v' w' ∧ w'.ownsRow base 5 1 v' (n + m) (cells8 (l ++ fl f m)) ∧ W.grownBy w' v.ownBlock := by
  obtain ⟨i0, hi, hz0, hz1, hz2⟩ := info_parts info8
  rcases hx.at_ with rfl | ⟨b, o, rfl, hr⟩
  · refine ⟨v, W, run_append_zero W base _ _ 5 i0 1 Tryd.underlying34 hi v n _ hown x c, ?_, World.grownBy.refl _ _⟩
    rw [show fl f 0 = [] from rfl, List.append_nil]
    exact hown
  · obtain ⟨v', w', h1, h2, h3, _⟩ := run_append_own (P := Tryd.prog) W base 34 ty 5 i0 (.int .u8 0) 1 1 Tryd.underlying34 hi hz0 hz1 hz2 rfl (by decide) v n _ hown ⟨b, o, none⟩ m c (cells8 (fl f m)) (by rw [cells8_len, fl_len]; omega) (fun j u hu => by
      have hj : j < m := by
        rcases Nat.lt_or_ge j m with h' | h'
        · exact h'
        · rw [List.getElem?_eq_none (by rw [cells8_len, fl_len]; exact h')] at hu; cases hu
      have hc := hr.c j hj
      rw [cells8_at _ j (by rw [fl_len]; exact hj), List.getD_eq_getElem?_getD, fl_at f hj] at hu
      have ea : (⟨b, o, none⟩ : Addr).add j = ⟨b, o + j, none⟩ := by unfold Addr.add; split <;> simp_all
      rw [ea, hc]
      simpa using hu) (cells8_one _) (by unfold maxLen; omega) (by omega) hbase
    refine ⟨v', w', h1, ?_, h3⟩
    rw [show cells8 (l ++ fl f m) = cells8 l ++ cells8 (fl f m) from List.map_append]
    exact h2
/-- The same, at a step of a region that draws its order. -/
theorem step_app {W : World} {ops : Array Oper} {op : Oper} {a : Act} {K : Act → World → Prop} {Q : Exit → Act → World → Prop} {E : Prop} (hgd : op.guard = none) (s x : Operand)
    (ho : op.op = .call { callee := .builtin .append, args := #[s, x], argTypes := #[34, 34] })
    {base : Nat} {v : Value} {n : Nat} {l : List Nat} (hs : a.eval s = v) (hown : W.ownsRow base 5 1 v n (cells8 l)) {y : Option Addr} {m c : Nat} {f : Nat → Nat} (hx : a.eval x = .slice y m c) (hy : BA W y m f) (hb : n + m ≤ 1000000) (hbase : base ≤ W.heap.size)
    (h : ∀ v' w', w'.ownsRow base 5 1 v' (n + m) (cells8 (l ++ fl f m)) → W.grownBy w' v.ownBlock → K (a.put op.dst v') w') :
    if Region.wanted op (yielded ops a.tmps) = true then Oper.wp Tryd.prog op a W K Q else E := by
  have hw : Region.wanted op (yielded ops a.tmps) = true := by simp [Region.wanted, hgd]
  rw [if_pos hw]
  obtain ⟨v', w', hr, h2, h3⟩ := run_app (c := c) hown hy hb hbase op.type
  unfold Oper.wp execOp
  simp only [ho, resolve, invoke, builtin, Sem.run_bind, Sem.run_pure, Result.andThen_ok, List.map_toArray, List.map_cons, List.map_nil, hs, hx, hr]
  exact h v' w' h2 h3
theorem below_append {w0 w w' : World} {v : Value} {n : Nat} {xs : List Value} (h : Below w0.heap.size w0 w) (ho : w.ownsRow w0.heap.size 5 1 v n xs) (hg : w.grownBy w' v.ownBlock) : Below w0.heap.size w0 w' :=
  h.grown hg h.size (fun k hk => (ho.lt k hk).1)
theorem own_empty (w : World) (base : Nat) (hb : base ≤ w.heap.size) : (w.alloc (.cells #[] 5)).ownsRow base 5 1 (.slice (some ⟨w.heap.size, 0, none⟩) 0 0) 0 (cells8 []) :=
  World.ownsRow_made w #[] 0 hb (by decide) rfl
/-- The same, at a plain region's list. -/
theorem wpList_app {W : World} {ops : Array Oper} {rest : List Oper} {op : Oper} {a : Act} {Q : Exit → Act → World → Prop} (hgd : op.guard = none) (s x : Operand)
    (ho : op.op = .call { callee := .builtin .append, args := #[s, x], argTypes := #[34, 34] })
    {base : Nat} {v : Value} {n : Nat} {l : List Nat} (hs : a.eval s = v) (hown : W.ownsRow base 5 1 v n (cells8 l)) {y : Option Addr} {m c : Nat} {f : Nat → Nat} (hx : a.eval x = .slice y m c) (hy : BA W y m f) (hb : n + m ≤ 1000000) (hbase : base ≤ W.heap.size)
    (h : ∀ v' w', w'.ownsRow base 5 1 v' (n + m) (cells8 (l ++ fl f m)) → W.grownBy w' v.ownBlock → wpList Tryd.prog ops Q rest (a.put op.dst v') w') : wpList Tryd.prog ops Q (op :: rest) a W := by
  refine wpList_plain hgd fun K hK => ?_
  obtain ⟨v', w', hr, h2, h3⟩ := run_app (c := c) hown hy hb hbase op.type
  unfold Oper.wp execOp
  simp only [ho, resolve, invoke, builtin, Sem.run_bind, Sem.run_pure, Result.andThen_ok, List.map_toArray, List.map_cons, List.map_nil, hs, hx, hr]
  exact hK _ _ (h v' w' h2 h3)
/-- One byte that was laid in a block of its own. -/
theorem one_made (w : World) (x : Nat) (h : x < 256) : BA (w.alloc (.cells #[.int .u8 (x : Int)] 5)) (some ⟨w.heap.size, 0, none⟩) 1 (fun _ => x) :=
  ⟨fun _ => h, Or.inr ⟨_, _, rfl, ⟨fun i hi => by
    obtain rfl : i = 0 := by omega
    rw [cell_of_row _ _ _ _ _ _ (heap_alloc_new w _)]; rfl⟩⟩⟩
end Go.Proofs.YtimaaendbfjblabDoor
namespace Go.Proofs.YtimaaendbfjblabDoor
open Go.RowKit
attribute [local go_sem ↓] Go.wp_at_zero Go.wp_at_succ

theorem one_row (w : World) (x : Nat) : Row8 (w.alloc (.cells #[.int .u8 (x : Int)] 5)) w.heap.size 1 (fun _ => (x : Int)) :=
  ⟨by simp, fun i hi => by
    obtain rfl : i = 0 := by omega
    rw [cell_of_row _ _ _ _ _ _ (heap_alloc_new w _)]; rfl, fun i _ => frozen_of_row _ _ _ _ _ (heap_alloc_new w _)⟩
theorem pt_cells (w : World) (X Y : Int) (t : Bool) : ∀ j v, [Value.int .u64 (L 0 X), .int .u64 (L 1 X), .int .u64 (L 2 X), .int .u64 (L 3 X), .int .u64 (L 0 Y), .int .u64 (L 1 Y), .int .u64 (L 2 Y), .int .u64 (L 3 Y), .bool t][j]? = some v → (w.alloc (.cells #[.int .u64 (L 0 X), .int .u64 (L 1 X), .int .u64 (L 2 X), .int .u64 (L 3 X), .int .u64 (L 0 Y), .int .u64 (L 1 Y), .int .u64 (L 2 Y), .int .u64 (L 3 Y), .bool t] 26)).cell? ⟨w.heap.size, j, none⟩ = some v := by
  intro j v hv
  rw [cell_of_row _ _ _ _ _ _ (heap_alloc_new w _)]
  simpa using hv
theorem q_formedL {w : World} (hT : Tab w) {X Y : Int} (hX : Num X) (hY : Num Y) (t : Bool) : Calls Tryd.prog 10 #[.agg #[.int .u64 (L 0 X), .int .u64 (L 1 X), .int .u64 (L 2 X), .int .u64 (L 3 X), .int .u64 (L 0 Y), .int .u64 (L 1 Y), .int .u64 (L 2 Y), .int .u64 (L 3 Y), .bool t]] w fun e w' => e = .returned (.bool (fmd X Y t)) ∧ Below w.heap.size w w' := q_Formed hT hX hY t
set_option maxRecDepth 100000 in
set_option maxHeartbeats 4000000 in
theorem q_enc_none {w : World} (hT : Tab w) {X Y : Int} (hX : Num X) (hY : Num Y) (t : Bool) (h : t = true ∨ fmd X Y t = false) :
    Calls Tryd.prog 11 [.agg (rc X Y t).toArray].toArray w fun e w' => ∃ b, e = .returned (.slice (some ⟨b, 0, none⟩) 1 1) ∧ w.heap.size ≤ b ∧ Row8 w' b 1 (fun _ => 0) ∧ Below w.heap.size w w' := by
  show Calls Tryd.prog 11 #[.agg #[.int .u64 (L 0 X), .int .u64 (L 1 X), .int .u64 (L 2 X), .int .u64 (L 3 X), .int .u64 (L 0 Y), .int .u64 (L 1 Y), .int .u64 (L 2 Y), .int .u64 (L 3 Y), .bool t]] w _
  have hal := K.alloc (Below.refl _ w) (.cells #[.int .u64 (L 0 X), .int .u64 (L 1 X), .int .u64 (L 2 X), .int .u64 (L 3 X), .int .u64 (L 0 Y), .int .u64 (L 1 Y), .int .u64 (L 2 Y), .int .u64 (L 3 Y), .bool t] 26)
  have hc := pt_cells w X Y t
  have HE := hide (q_formedL (hT.keep hal) hX hY t)
  have HAl := hide hal
  have c0 := hc 0 _ rfl
  have c1 := hc 1 _ rfl
  have c2 := hc 2 _ rfl
  have c3 := hc 3 _ rfl
  have c4 := hc 4 _ rfl
  have c5 := hc 5 _ rfl
  have c6 := hc 6 _ rfl
  have c7 := hc 7 _ rfl
  have c8 := hc 8 _ rfl
  clear hc hal hX hY hT
  cases t with
  | true =>
    clear h HE
    go_enter Tryd.func11, Tryd.ntmps11
    go_upto_region 1 with fail
    generalize w.alloc (.cells #[.int .u64 (L 0 X), .int .u64 (L 1 X), .int .u64 (L 2 X), .int .u64 (L 3 X), .int .u64 (L 0 Y), .int .u64 (L 1 Y), .int .u64 (L 2 Y), .int .u64 (L 3 Y), .bool true] 26) = X0 at *
    go_wp2_with fail
    go_ret
    exact ⟨X0.heap.size, rfl, HAl.out.size, one_row X0 0, K.alloc HAl.out _⟩
  | false =>
    have hf := h.resolve_left (by decide)
    rw [hf] at HE
    clear h hf
    go_enter Tryd.func11, Tryd.ntmps11
    go_upto_region 1 with fail
    generalize w.alloc (.cells #[.int .u64 (L 0 X), .int .u64 (L 1 X), .int .u64 (L 2 X), .int .u64 (L 3 X), .int .u64 (L 0 Y), .int .u64 (L 1 Y), .int .u64 (L 2 Y), .int .u64 (L 3 Y), .bool false] 26) = X0 at *
    go_wp2_with fail
    with_reducible refine Calls.mono HE.out ?_
    rintro e w2 ⟨rfl, hb⟩
    have HB2 := hide (K.call HAl.out hb)
    clear hb HE HAl c0 c1 c2 c3 c4 c5 c6 c7 c8
    go_wp2_with fail
    go_ret
    exact ⟨w2.heap.size, rfl, HB2.out.size, one_row w2 0, K.alloc HB2.out _⟩
theorem q_EncodeS {w : World} (hT : Tab w) {X Y : Int} (hX : Num X) (hY : Num Y) (t : Bool) (hf : fmd X Y t = false) : Calls Tryd.prog 11 [.agg (rc X Y t).toArray].toArray w fun e w2 => ∃ b, e = .returned (.slice (some ⟨b, 0, none⟩) 1 1) ∧ w.heap.size ≤ b ∧ b < w2.heap.size ∧ w2.rangeAt b 0 [Value.int .u8 0] ∧ w2.there b 0 1 ∧ Below w.heap.size w w2 := by
  refine Calls.mono (q_enc_none hT hX hY t (Or.inr hf)) ?_
  rintro e w2 ⟨b, rfl, hb, hr, hB⟩
  have h0 := hr.c 0 (by omega)
  refine ⟨b, rfl, hb, hr.lt, fun j v hv => ?_, fun j hj => ?_, hB⟩
  · cases j with
    | zero => rw [Nat.add_zero, h0]; exact hv
    | succ j => cases hv
  · obtain rfl : j = 0 := by omega
    exact ⟨by rw [Nat.add_zero, h0]; rfl, hr.z 0 (by omega)⟩
end Go.Proofs.YtimaaendbfjblabDoor
namespace Go.Proofs.YtimaaendbfjblabDoor
open Go.RowKit

theorem p256Twice_walk {w : World} (hT : Tab w) {a0 : Int} (ha0 : Num a0) {a1 : Int} (ha1 : Num a1) : Calls Tryd.prog 3 #[.agg #[.int .u64 (L 0 a0), .int .u64 (L 1 a0), .int .u64 (L 2 a0), .int .u64 (L 3 a0)], .agg #[.int .u64 (L 0 a1), .int .u64 (L 1 a1), .int .u64 (L 2 a1), .int .u64 (L 3 a1)]] w fun e w' => e = .returned (.bool true) ∧ Below w.heap.size w w' := by
  obtain ⟨k0, rfl⟩ := Int.eq_ofNat_of_zero_le ha0.lo
  have hk0 : k0 < 2 ^ 256 := by have := ha0.hi; unfold M at this; omega
  obtain ⟨k1, rfl⟩ := Int.eq_ofNat_of_zero_le ha1.lo
  have hk1 : k1 < 2 ^ 256 := by have := ha1.hi; unfold M at this; omega
  exact twice_walk hT hk0 hk1 (Nat.lt_trans (Nat.mod_lt _ (by decide +kernel)) hmod1) rfl (h_mul hk0 hk1)
theorem p256Stray_walk {w : World} (hT : Tab w) {X0 Y0 : Int} (hX0 : Num X0) (hY0 : Num Y0) (t0 : Bool) {a1 : Int} (ha1 : Num a1) : Calls Tryd.prog 4 #[.agg #[.int .u64 (L 0 X0), .int .u64 (L 1 X0), .int .u64 (L 2 X0), .int .u64 (L 3 X0), .int .u64 (L 0 Y0), .int .u64 (L 1 Y0), .int .u64 (L 2 Y0), .int .u64 (L 3 Y0), .bool t0], .agg #[.int .u64 (L 0 a1), .int .u64 (L 1 a1), .int .u64 (L 2 a1), .int .u64 (L 3 a1)]] w fun e w' => e = .returned (.bool true) ∧ Below w.heap.size w w' := by
  obtain ⟨k1, rfl⟩ := Int.eq_ofNat_of_zero_le ha1.lo
  have hk1 : k1 < 2 ^ 256 := by have := ha1.hi; unfold M at this; omega
  cases hf : fmd X0 Y0 t0 with
  | true => exact stray_true hT hX0 hY0 t0 hf
  | false => exact stray_false hT hX0 hY0 t0 hf hk1 (fun w' hb => q_EncodeS (hT.keep hb) hX0 hY0 t0 hf)
end Go.Proofs.YtimaaendbfjblabDoor
namespace Go.Proofs.YtimaaendbfjblabDoor
open Go.ChangeShapes Go.WideShapes Go.ChangeAt Go.RowKit

theorem own : ownKnob Tryd.prog.godebug = none := by kernel_rfl
theorem cellsU64 : Tryd.prog.cellsOf 22 = 1 := by kernel_rfl
theorem cellsNat : Tryd.prog.cellsOf 24 = 4 := by kernel_rfl
theorem word_of_wf {x : Int} (h : (Lit.int .u64 x).wf = true) : 0 ≤ x ∧ x < 18446744073709551616 := by
  simp [Lit.wf, IntKind.min, IntKind.max, IntKind.signed, IntKind.bits] at h
  exact ⟨by omega, by omega⟩
theorem wf_of_word {x : Int} (h : 0 ≤ x ∧ x < 18446744073709551616) : (Lit.int .u64 x).wf = true := by
  simp [Lit.wf, IntKind.min, IntKind.max, IntKind.signed, IntKind.bits]
  omega
theorem list4 {α : Type} (l : List α) (h : (⟨l⟩ : Array α).size = 4) : ∃ a b c d, l = [a, b, c, d] := by
  match l, h with
  | [a, b, c, d], _ => exact ⟨a, b, c, d, rfl⟩

/-- A parameter of four words is the words of one number. -/
theorem open_nat {H : Type} {enc : TypeId × Value → H} {W : World} {base : Nat} {v : Value} {d : DataW H} {p : List MemPlace}
    (hv : Value.okWide Tryd.prog W .any base 24 v) (h : DataW.Trod enc Tryd.prog W 0 (fun _ => true) true 24 v d p) :
    ∃ a, Num a ∧ v = .agg #[.int .u64 (L 0 a), .int .u64 (L 1 a), .int .u64 (L 2 a), .int .u64 (L 3 a)] ∧ d = DataW.agg [.lit (.int .u64 (L 0 a)), .lit (.int .u64 (L 1 a)), .lit (.int .u64 (L 2 a)), .lit (.int .u64 (L 3 a))] ∧ p = [] := by
  obtain ⟨cs, rfl, hsz, _⟩ : ∃ cs, v = .agg cs ∧ cs.size = Tryd.prog.cellsOf 24 ∧ Row.okWide Tryd.prog W .any base 24 cs := by
    simpa [Value.okWide, Tryd.underlying24] using hv
  rw [cellsNat] at hsz
  obtain ⟨l⟩ := cs
  obtain ⟨c0, c1, c2, c3, rfl⟩ := list4 l hsz
  obtain ⟨fuel, hf⟩ := h
  obtain ⟨y0, y1, y2, y3, m, hx, hy0, hy1, hy2, hy3⟩ := trod_array4 Tryd.underlying24 cellsU64 hf
  obtain ⟨x0, e0, rfl, w0⟩ := DataW.trod_int Tryd.underlying22 hy0
  obtain ⟨x1, e1, rfl, w1⟩ := DataW.trod_int Tryd.underlying22 hy1
  obtain ⟨x2, e2, rfl, w2⟩ := DataW.trod_int Tryd.underlying22 hy2
  obtain ⟨x3, e3, rfl, w3⟩ := DataW.trod_int Tryd.underlying22 hy3
  simp at e0 e1 e2 e3
  subst e0 e1 e2 e3
  simp only [Prod.mk.injEq] at hx
  obtain ⟨rfl, rfl⟩ := hx
  obtain ⟨a, ha, rfl, rfl, rfl, rfl⟩ := num_of x0 x1 x2 x3 (word_of_wf w0) (word_of_wf w1) (word_of_wf w2) (word_of_wf w3)
  exact ⟨a, ha, rfl, rfl, rfl⟩
theorem shut_nat {H : Type} {enc : TypeId × Value → H} (W : World) (sp : Nat → Bool) (a : Int) :
    DataW.Trod enc Tryd.prog W 0 sp true 24 (.agg #[.int .u64 (L 0 a), .int .u64 (L 1 a), .int .u64 (L 2 a), .int .u64 (L 3 a)]) (DataW.agg [.lit (.int .u64 (L 0 a)), .lit (.int .u64 (L 1 a)), .lit (.int .u64 (L 2 a)), .lit (.int .u64 (L 3 a))]) [] := by
  have w0 := wf_of_word ⟨L_lo 0 a, L_hi 0 a⟩
  have w1 := wf_of_word ⟨L_lo 1 a, L_hi 1 a⟩
  have w2 := wf_of_word ⟨L_lo 2 a, L_hi 2 a⟩
  have w3 := wf_of_word ⟨L_lo 3 a, L_hi 3 a⟩
  exact ⟨2, by simp [DataW.trod, Value.cells, Tryd.underlying24, Tryd.underlying22, cellsNat, cellsU64, w0, w1, w2, w3, show List.range 4 = [0, 1, 2, 3] from rfl]⟩

theorem u8_of_wf {x : Int} (h : (Lit.int .u8 x).wf = true) : 0 ≤ x ∧ x ≤ 255 := by
  simp [Lit.wf, IntKind.min, IntKind.max, IntKind.signed, IntKind.bits] at h
  exact ⟨by omega, by omega⟩
theorem gMod : Tryd.prog.globalNamed "chronicle/field.moduli" = some 1 := by kernel_rfl
theorem tMod : (Tryd.prog.globals[1]?).map (·.type) = some 61 := by kernel_rfl
theorem cellsModuli : Tryd.prog.cellsOf 61 = 16 := by kernel_rfl
theorem cellsMod : Tryd.prog.cellsOf 56 = 4 := by kernel_rfl
theorem list16 {α : Type} (l : List α) (h : l.length = 16) : ∃ x0 x1 x2 x3 x4 x5 x6 x7 x8 x9 x10 x11 x12 x13 x14 x15, l = [x0, x1, x2, x3, x4, x5, x6, x7, x8, x9, x10, x11, x12, x13, x14, x15] := by
  match l, h with
  | [x0, x1, x2, x3, x4, x5, x6, x7, x8, x9, x10, x11, x12, x13, x14, x15], _ => exact ⟨x0, x1, x2, x3, x4, x5, x6, x7, x8, x9, x10, x11, x12, x13, x14, x15, rfl⟩
def laid1 : List (String × DataW Unit) := [("chronicle/field.moduli", Rows.laid_chronicle_field_moduli), ("chronicle/p256.curveB", Rows.laid_chronicle_p256_curveB)]
theorem cells_of_table {H : Type} {enc : TypeId × Value → H} {W : World} {sp : Nat → Bool} {held : Bool} {fuel : Nat} {l : List Value} {p : List MemPlace}
    (h : DataW.trod enc Tryd.prog W 0 sp held fuel 61 l = some (Rows.laid_chronicle_field_moduli, p)) : l = [.int .u64 18446744073709551615, .int .u64 4294967295, .int .u64 0, .int .u64 18446744069414584321, .int .u64 17562291160714782033, .int .u64 13611842547513532036, .int .u64 18446744073709551615, .int .u64 18446744069414584320, .int .u64 18446744073709551597, .int .u64 18446744073709551615, .int .u64 18446744073709551615, .int .u64 9223372036854775807, .int .u64 6346243789798364141, .int .u64 1503914060200516822, .int .u64 0, .int .u64 1152921504606846976] := by
  cases fuel with
  | zero => simp [DataW.trod] at h
  | succ fuel =>
    simp only [DataW.trod, Tryd.underlying61, cellsModuli, cellsMod] at h
    split at h
    · rename_i hl
      obtain ⟨x0, x1, x2, x3, x4, x5, x6, x7, x8, x9, x10, x11, x12, x13, x14, x15, rfl⟩ := list16 l (by simpa using hl)
      rw [show List.range 4 = [0, 1, 2, 3] from rfl] at h
      simp only [Option.map_eq_some_iff, List.mapM_cons, List.mapM_nil, Option.bind_eq_bind, Option.bind_eq_some_iff, Option.pure_def, Option.some.injEq] at h
      obtain ⟨ys, ⟨y0, h0, _, ⟨y1, h1, _, ⟨y2, h2, _, ⟨y3, h3, _, rfl, rfl⟩, rfl⟩, rfl⟩, rfl⟩, hx⟩ := h
      obtain ⟨d0, p0⟩ := y0
      obtain ⟨d1, p1⟩ := y1
      obtain ⟨d2, p2⟩ := y2
      obtain ⟨d3, p3⟩ := y3
      simp only [Rows.laid_chronicle_field_moduli, List.map_cons, List.map_nil, Prod.mk.injEq, DataW.agg.injEq, List.cons.injEq, and_true] at hx
      obtain ⟨⟨e0, e1, e2, e3⟩, _⟩ := hx
      subst e0 e1 e2 e3
      have g0 := Lib.cells_of_tab (k := .u64) (zs := [18446744073709551615, 4294967295, 0, 18446744069414584321]) Tryd.underlying56 Tryd.underlying22 cellsU64 cellsMod h0
      have g1 := Lib.cells_of_tab (k := .u64) (zs := [17562291160714782033, 13611842547513532036, 18446744073709551615, 18446744069414584320]) Tryd.underlying56 Tryd.underlying22 cellsU64 cellsMod h1
      have g2 := Lib.cells_of_tab (k := .u64) (zs := [18446744073709551597, 18446744073709551615, 18446744073709551615, 9223372036854775807]) Tryd.underlying56 Tryd.underlying22 cellsU64 cellsMod h2
      have g3 := Lib.cells_of_tab (k := .u64) (zs := [6346243789798364141, 1503914060200516822, 0, 1152921504606846976]) Tryd.underlying56 Tryd.underlying22 cellsU64 cellsMod h3
      simp at g0 g1 g2 g3
      simp [g0, g1, g2, g3]
    · cases h
theorem gB : Tryd.prog.globalNamed "chronicle/p256.curveB" = some 0 := by kernel_rfl
theorem tB : (Tryd.prog.globals[0]?).map (·.type) = some 24 := by kernel_rfl
theorem tab_of_laid {W : World} (h : laidMetH Tryd.prog laid1 W) : Tab W := by
  rw [MakeChecks.laidMetH_plain _ _ _ (by kernel_rfl)] at h
  have hB : Lib.TabIs Tryd.prog W "chronicle/p256.curveB" .u64 [4309448131093880907, 7285987128567378166, 12964664127075681980, 6540974713487397863] := Lib.tabIs_of_head (rest := []) gB tB Tryd.underlying24 Tryd.underlying22 cellsU64 cellsNat h.tail
  obtain ⟨ps, ⟨g, t, cs, fuel, p, q, hg, ht, hvar, hd, _, _⟩, _⟩ := h
  obtain rfl := Option.some.inj (gMod.symm.trans hg)
  obtain rfl := Option.some.inj (tMod.symm.trans ht)
  have hcs := cells_of_table hd
  obtain ⟨l⟩ := cs
  simp only at hcs
  subst hcs
  exact ⟨World.var?_cell hg hvar 0, World.var?_cell hg hvar 1, World.var?_cell hg hvar 2, World.var?_cell hg hvar 3, World.var?_cell hg hvar 4, World.var?_cell hg hvar 5, World.var?_cell hg hvar 6, World.var?_cell hg hvar 7, World.var?_cell hg hvar 8, World.var?_cell hg hvar 9, World.var?_cell hg hvar 10, World.var?_cell hg hvar 11, World.var?_cell hg hvar 12, World.var?_cell hg hvar 13, World.var?_cell hg hvar 14, World.var?_cell hg hvar 15, hB.cell gB 0 (by decide), hB.cell gB 1 (by decide), hB.cell gB 2 (by decide), hB.cell gB 3 (by decide)⟩
/-- The door's own heap meets the condition. -/
theorem door_met (os : Os) (args : Array Value) : laidMetH Tryd.prog laid1 ((World.doorLaid Tryd.prog 200 os).forCall (fun _ _ => 0) ⟨#[], args, []⟩).memory :=
  laidMetH_of_parts3 (fuel := 8) (laidMet_of_run' 8 (by kernel_rfl) (by kernel_rfl)) (by kernel_rfl) (by kernel_rfl)
end Go.Proofs.YtimaaendbfjblabDoor
namespace Go.Proofs.YtimaaendbfjblabDoor
open Go.ChangeShapes Go.WideShapes Go.ChangeAt Go.RowKit

theorem cellsPt : Tryd.prog.cellsOf 26 = 9 := by kernel_rfl
theorem cellsBool : Tryd.prog.cellsOf 4 = 1 := by kernel_rfl
theorem list9 {α : Type} (l : List α) (h : (⟨l⟩ : Array α).size = 9) : ∃ x0 x1 x2 x3 x4 x5 x6 x7 x8, l = [x0, x1, x2, x3, x4, x5, x6, x7, x8] := by
  match l, h with
  | [x0, x1, x2, x3, x4, x5, x6, x7, x8], _ => exact ⟨x0, x1, x2, x3, x4, x5, x6, x7, x8, rfl⟩
theorem open_cells {H : Type} {enc : TypeId × Value → H} {W : World} {sp : Nat → Bool} {held : Bool} {fuel : Nat} {c0 c1 c2 c3 : Value} {y : DataW H × List MemPlace}
    (hf : DataW.trod enc Tryd.prog W 0 sp held fuel 24 [c0, c1, c2, c3] = some y) :
    ∃ a, Num a ∧ c0 = .int .u64 (L 0 a) ∧ c1 = .int .u64 (L 1 a) ∧ c2 = .int .u64 (L 2 a) ∧ c3 = .int .u64 (L 3 a) ∧ y = (DataW.agg [.lit (.int .u64 (L 0 a)), .lit (.int .u64 (L 1 a)), .lit (.int .u64 (L 2 a)), .lit (.int .u64 (L 3 a))], []) := by
  obtain ⟨y0, y1, y2, y3, m, hx, hy0, hy1, hy2, hy3⟩ := trod_array4 Tryd.underlying24 cellsU64 hf
  obtain ⟨x0, e0, rfl, w0⟩ := DataW.trod_int Tryd.underlying22 hy0
  obtain ⟨x1, e1, rfl, w1⟩ := DataW.trod_int Tryd.underlying22 hy1
  obtain ⟨x2, e2, rfl, w2⟩ := DataW.trod_int Tryd.underlying22 hy2
  obtain ⟨x3, e3, rfl, w3⟩ := DataW.trod_int Tryd.underlying22 hy3
  simp at e0 e1 e2 e3
  subst e0 e1 e2 e3
  obtain ⟨a, ha, rfl, rfl, rfl, rfl⟩ := num_of x0 x1 x2 x3 (word_of_wf w0) (word_of_wf w1) (word_of_wf w2) (word_of_wf w3)
  exact ⟨a, ha, rfl, rfl, rfl, rfl, by simpa using hx⟩
/-- A point, as data. -/
def ptD {H : Type} (a b : Int) (t : Bool) : DataW H := DataW.agg [DataW.agg [.lit (.int .u64 (L 0 a)), .lit (.int .u64 (L 1 a)), .lit (.int .u64 (L 2 a)), .lit (.int .u64 (L 3 a))], DataW.agg [.lit (.int .u64 (L 0 b)), .lit (.int .u64 (L 1 b)), .lit (.int .u64 (L 2 b)), .lit (.int .u64 (L 3 b))], .lit (.bool t)]
theorem open_point {H : Type} {enc : TypeId × Value → H} {W : World} {base : Nat} {v : Value} {d : DataW H} {p : List MemPlace}
    (hv : Value.okWide Tryd.prog W .any base 26 v) (h : DataW.Trod enc Tryd.prog W 0 (fun _ => true) true 26 v d p) :
    ∃ a b t, Num a ∧ Num b ∧ v = .agg #[.int .u64 (L 0 a), .int .u64 (L 1 a), .int .u64 (L 2 a), .int .u64 (L 3 a), .int .u64 (L 0 b), .int .u64 (L 1 b), .int .u64 (L 2 b), .int .u64 (L 3 b), .bool t] ∧ d = ptD a b t ∧ p = [] := by
  obtain ⟨cs, rfl, hsz, _⟩ : ∃ cs, v = .agg cs ∧ cs.size = Tryd.prog.cellsOf 26 ∧ Row.okWide Tryd.prog W .any base 26 cs := by
    simpa [Value.okWide, Tryd.underlying26] using hv
  rw [cellsPt] at hsz
  obtain ⟨l⟩ := cs
  obtain ⟨x0, x1, x2, x3, x4, x5, x6, x7, x8, rfl⟩ := list9 l hsz
  obtain ⟨fuel, hf⟩ := h
  cases fuel with
  | zero => simp [DataW.trod] at hf
  | succ fuel =>
    simp only [DataW.trod, Value.cells, Tryd.underlying26, cellsPt] at hf
    split at hf
    · simp only [Option.map_eq_some_iff, List.mapM_cons, List.mapM_nil, Option.bind_eq_bind, Option.bind_eq_some_iff, Option.pure_def, Option.some.injEq] at hf
      obtain ⟨ys, ⟨y0, h0, _, ⟨y1, h1, _, ⟨y2, h2, _, rfl, rfl⟩, rfl⟩, rfl⟩, hx⟩ := hf
      obtain ⟨a, ha, rfl, rfl, rfl, rfl, rfl⟩ := open_cells (c0 := x0) (c1 := x1) (c2 := x2) (c3 := x3) h0
      obtain ⟨b, hb, rfl, rfl, rfl, rfl, rfl⟩ := open_cells (c0 := x4) (c1 := x5) (c2 := x6) (c3 := x7) h1
      obtain ⟨t, e, rfl⟩ := DataW.trod_bool Tryd.underlying4 h2
      simp [cellsBool] at e
      subst e
      simp at hx
      obtain ⟨rfl, rfl⟩ := hx
      exact ⟨a, b, t, ha, hb, rfl, rfl, rfl⟩
    · cases hf
theorem shut_point {H : Type} {enc : TypeId × Value → H} (W : World) (sp : Nat → Bool) (a b : Int) (t : Bool) :
    DataW.Trod enc Tryd.prog W 0 sp true 26 (.agg #[.int .u64 (L 0 a), .int .u64 (L 1 a), .int .u64 (L 2 a), .int .u64 (L 3 a), .int .u64 (L 0 b), .int .u64 (L 1 b), .int .u64 (L 2 b), .int .u64 (L 3 b), .bool t]) (ptD a b t) [] := by
  have wa0 := wf_of_word ⟨L_lo 0 a, L_hi 0 a⟩
  have wa1 := wf_of_word ⟨L_lo 1 a, L_hi 1 a⟩
  have wa2 := wf_of_word ⟨L_lo 2 a, L_hi 2 a⟩
  have wa3 := wf_of_word ⟨L_lo 3 a, L_hi 3 a⟩
  have wb0 := wf_of_word ⟨L_lo 0 b, L_hi 0 b⟩
  have wb1 := wf_of_word ⟨L_lo 1 b, L_hi 1 b⟩
  have wb2 := wf_of_word ⟨L_lo 2 b, L_hi 2 b⟩
  have wb3 := wf_of_word ⟨L_lo 3 b, L_hi 3 b⟩
  exact ⟨3, by simp [ptD, DataW.trod, Value.cells, Tryd.underlying26, Tryd.underlying24, Tryd.underlying22, Tryd.underlying4, cellsPt, cellsNat, cellsU64, cellsBool, wa0, wa1, wa2, wa3, wb0, wb1, wb2, wb3, show List.range 4 = [0, 1, 2, 3] from rfl]⟩
end Go.Proofs.YtimaaendbfjblabDoor
