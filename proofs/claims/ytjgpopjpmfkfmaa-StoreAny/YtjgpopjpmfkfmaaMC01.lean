/- The tables by which contracts of the library are laid at this program. Plain facts on numbers written in words of 64 bits: no program in sight. Arrays of words in blocks of their own; how they are compared; small facts that every walk wants. Small facts that every walk wants: all of them lie in Base. Rows of bytes in memory. Rows of bytes that may grow. Bytes that are handed in, and bytes that are appended to a row of one's own (no function of the program is named). Texts, one behind the other; rows of bytes of one's own, as bytes that are handed on. -/
import Derived.Shelf.SlIterI.Nil
import Derived.Shelf.SortM.Plain
import Derived.Shelf.SortM.SortNone
import Derived.Test.YtjgpopjpmfkfmaaRows
import Derived.Below
import Derived.WalkKit
import Derived.WalkSpells
import Derived.WalkSmall
import Derived.Laws.Externs
import Derived.Laws.Pointers
import Derived.Laws.BitsAllLaws
import Derived.Deep.RegionHeld3
import Derived.Deep.DrawnRows
import Derived.RowKit3
import Derived.LoopN
import Derived.Handy
import Derived.BigQuiet
import Derived.Deep.QuietTactic
import Derived.ChangeKeysEq
import Derived.Deep.AppendLies
import Derived.OwnWalk
namespace Go.Proofs.Ytjgpopjpmfkfmaa
open Go.Shelf
end Go.Proofs.Ytjgpopjpmfkfmaa
namespace Go.Proofs.Ytjgpopjpmfkfmaa
set_option maxRecDepth 100000

/-- A word's number of values. -/
def B : Int := 18446744073709551616
/-- The word of a number that stands for its power k (of a number below nothing: that of what goes round). -/
def L (k : Nat) (a : Int) : Int := a / B ^ k % B
/-- The carry into word k of a sum. -/
def C (a b : Int) (k : Nat) : Int := (a % B ^ k + b % B ^ k) / B ^ k
/-- The borrow out of word k of a difference. -/
def D (a b : Int) (k : Nat) : Int := -((a % B ^ k - b % B ^ k) / B ^ k)
/-- 2^256. -/
def M : Int := 115792089237316195423570985008687907853269984665640564039457584007913129639936
/-- The sum is 2^256 or more. -/
def over (a b : Int) : Bool := decide (M ≤ a + b)
end Go.Proofs.Ytjgpopjpmfkfmaa
namespace Go.Proofs.Ytjgpopjpmfkfmaa
set_option maxRecDepth 100000
open Go.RowKit

theorem later {W w1 : World} {p : Addr} {v : Value} (hb : Below W.heap.size W w1) (h : W.cell? p = some v) : w1.cell? p = some v := by
  have hp : p.block < W.heap.size := by
    cases Nat.lt_or_ge p.block W.heap.size with
    | inl h => exact h
    | inr h' =>
      have : W.heap[p.block]? = none := by simp [h']
      simp [World.cell?, this] at h
  rw [hb.cell hp]; exact h

structure Arr (w : World) (b : Nat) (x0 x1 x2 x3 : Int) : Prop where
  lt : b < w.heap.size
  c0 : w.cell? ⟨b, 0, none⟩ = some (.int .u64 x0)
  c1 : w.cell? ⟨b, 1, none⟩ = some (.int .u64 x1)
  c2 : w.cell? ⟨b, 2, none⟩ = some (.int .u64 x2)
  c3 : w.cell? ⟨b, 3, none⟩ = some (.int .u64 x3)
theorem Arr.keep {W w1 : World} {b : Nat} {x0 x1 x2 x3 : Int} (h : Arr W b x0 x1 x2 x3) (hb : Below W.heap.size W w1) : Arr w1 b x0 x1 x2 x3 :=
  ⟨Nat.lt_of_lt_of_le h.lt hb.size, later hb h.c0, later hb h.c1, later hb h.c2, later hb h.c3⟩
theorem Arr.alloc {W : World} {b : Nat} {x0 x1 x2 x3 : Int} (h : Arr W b x0 x1 x2 x3) (o : Obj) : Arr (W.alloc o) b x0 x1 x2 x3 :=
  h.keep ((Below.refl _ _).alloc (Nat.le_refl _) o)
theorem Arr.drew {W : World} {b : Nat} {x0 x1 x2 x3 : Int} (h : Arr W b x0 x1 x2 x3) : Arr W.drew b x0 x1 x2 x3 :=
  h.keep (Below.refl _ _).drew
theorem Arr.new (W : World) (b : Nat) (hb : b = W.heap.size) (t : TypeId) (x0 x1 x2 x3 : Int) : Arr (W.alloc (.cells #[.int .u64 x0, .int .u64 x1, .int .u64 x2, .int .u64 x3] t)) b x0 x1 x2 x3 := by
  subst hb
  constructor <;> simp [go_sem]
theorem K.alloc {w w' : World} (h : Below w.heap.size w w') (o : Obj) : Below w.heap.size w (w'.alloc o) := h.alloc h.size o
theorem K.call {w w' w1 : World} (h : Below w.heap.size w w') (hb : Below w'.heap.size w' w1) : Below w.heap.size w w1 := h.trans (hb.mono h.size)
theorem K.drew {w w' : World} (h : Below w.heap.size w w') : Below w.heap.size w w'.drew := h.drew
theorem K.drewN {w w' : World} (h : Below w.heap.size w w') (n : Nat) : Below w.heap.size w (w'.drewN n) := h.trans ⟨rfl, rfl, rfl, Nat.le_refl _, fun _ _ => rfl⟩
/-- A block that was made, and made anew with other cells. -/
theorem K.again {W w' : World} {o : Obj} (h : Below W.heap.size W (w'.alloc o)) (hB : W.heap.size ≤ w'.heap.size) (o' : Obj) : Below W.heap.size W (w'.alloc o') :=
  ⟨h.os, h.tape, h.output, by have := h.size; simp at this ⊢; omega, fun k hk => by rw [Below.heap_alloc _ _ _ (by omega), ← h.block k hk, Below.heap_alloc _ _ _ (by omega)]⟩
theorem K.set {W w' : World} {p : Addr} (h : Below W.heap.size W w') (hp : W.heap.size ≤ p.block) (u : Value) : Below W.heap.size W (w'.setCell p u) := h.setCell hp u
theorem ret_int {k : IntKind} {a b : Int} (h : a = b) : Ending.returned (.int k a) = .returned (.int k b) := by rw [h]
theorem ret_bool {a b : Bool} (h : a = b) : Ending.returned (.bool a) = .returned (.bool b) := by rw [h]
theorem hide {p : Prop} (h : p) : Hid p := h
/-- An array of four words that may be written. -/
structure ArrW (w : World) (b : Nat) (x0 x1 x2 x3 : Int) : Prop where
  lt : b < w.heap.size
  c0 : w.cell? ⟨b, 0, none⟩ = some (.int .u64 x0)
  c1 : w.cell? ⟨b, 1, none⟩ = some (.int .u64 x1)
  c2 : w.cell? ⟨b, 2, none⟩ = some (.int .u64 x2)
  c3 : w.cell? ⟨b, 3, none⟩ = some (.int .u64 x3)
  f0 : w.frozen? ⟨b, 0, none⟩ = false
  f1 : w.frozen? ⟨b, 1, none⟩ = false
  f2 : w.frozen? ⟨b, 2, none⟩ = false
  f3 : w.frozen? ⟨b, 3, none⟩ = false
theorem ArrW.keep {W w1 : World} {b : Nat} {x0 x1 x2 x3 : Int} (h : ArrW W b x0 x1 x2 x3) (hb : Below W.heap.size W w1) : ArrW w1 b x0 x1 x2 x3 :=
  ⟨Nat.lt_of_lt_of_le h.lt hb.size, later hb h.c0, later hb h.c1, later hb h.c2, later hb h.c3, (hb.frozen (p := ⟨b, 0, none⟩) h.lt).trans h.f0, (hb.frozen (p := ⟨b, 1, none⟩) h.lt).trans h.f1, (hb.frozen (p := ⟨b, 2, none⟩) h.lt).trans h.f2, (hb.frozen (p := ⟨b, 3, none⟩) h.lt).trans h.f3⟩
theorem ArrW.alloc {W : World} {b : Nat} {x0 x1 x2 x3 : Int} (h : ArrW W b x0 x1 x2 x3) (o : Obj) : ArrW (W.alloc o) b x0 x1 x2 x3 :=
  h.keep ((Below.refl _ _).alloc (Nat.le_refl _) o)
theorem ArrW.new (W : World) (b : Nat) (hb : b = W.heap.size) (t : TypeId) (x0 x1 x2 x3 : Int) : ArrW (W.alloc (.cells #[.int .u64 x0, .int .u64 x1, .int .u64 x2, .int .u64 x3] t)) b x0 x1 x2 x3 := by
  subst hb
  constructor <;> simp [go_sem]
end Go.Proofs.Ytjgpopjpmfkfmaa

namespace Go.Proofs.Ytjgpopjpmfkfmaa
set_option maxRecDepth 100000
open Go.RowKit

/-- n bytes lie from an address on. -/
structure Rd (w : World) (b o n : Nat) (f : Nat → Int) : Prop where
  c : ∀ i, i < n → w.cell? ⟨b, o + i, none⟩ = some (.int .u8 (f i))
/-- A row of n bytes of its own, that may be written. -/
structure Row8 (w : World) (b n : Nat) (f : Nat → Int) : Prop where
  lt : b < w.heap.size
  c : ∀ i, i < n → w.cell? ⟨b, i, none⟩ = some (.int .u8 (f i))
  z : ∀ i, i < n → w.frozen? ⟨b, i, none⟩ = false
theorem Rd.keep {W w1 : World} {b o n : Nat} {f : Nat → Int} (h : Rd W b o n f) (hb : Below W.heap.size W w1) : Rd w1 b o n f :=
  ⟨fun i hi => later hb (h.c i hi)⟩
theorem Rd.part {w : World} {b o n : Nat} {f : Nat → Int} (h : Rd w b o n f) (k m : Nat) (hk : k + m ≤ n) : Rd w b (o + k) m (fun i => f (k + i)) :=
  ⟨fun i hi => by have := h.c (k + i) (by omega); rwa [← Nat.add_assoc] at this⟩
theorem Rd.congr {w : World} {b o n : Nat} {f g : Nat → Int} (h : Rd w b o n f) (e : ∀ i, i < n → f i = g i) : Rd w b o n g :=
  ⟨fun i hi => by rw [← e i hi]; exact h.c i hi⟩
theorem Row8.keep {W w1 : World} {b n : Nat} {f : Nat → Int} (h : Row8 W b n f) (hb : Below W.heap.size W w1) : Row8 w1 b n f :=
  ⟨Nat.lt_of_lt_of_le h.lt hb.size, fun i hi => later hb (h.c i hi), fun i hi => (hb.frozen (p := ⟨b, i, none⟩) h.lt).trans (h.z i hi)⟩
theorem Row8.rd {w : World} {b n : Nat} {f : Nat → Int} (h : Row8 w b n f) : Rd w b 0 n f := ⟨fun i hi => by rw [Nat.zero_add]; exact h.c i hi⟩
theorem Row8.congr {w : World} {b n : Nat} {f g : Nat → Int} (h : Row8 w b n f) (e : ∀ i, i < n → f i = g i) : Row8 w b n g :=
  ⟨h.lt, fun i hi => by rw [← e i hi]; exact h.c i hi, h.z⟩
theorem Row8.store {w : World} {b n : Nat} {f : Nat → Int} (h : Row8 w b n f) (k : Nat) (hk : k < n) (v : Int) : Row8 (w.setCell ⟨b, k, none⟩ (.int .u8 v)) b n (fun i => if i = k then v else f i) := by
  refine ⟨by simpa using h.lt, fun i hi => ?_, fun i hi => by rw [World.frozen?_setCell]; exact h.z i hi⟩
  have hc := h.c i hi
  have hcs := h.c k hk
  by_cases e : i = k
  · subst e; simp [go_sem, hc]
  · simp [go_sem, hc, e]
end Go.Proofs.Ytjgpopjpmfkfmaa
namespace Go.Proofs.Ytjgpopjpmfkfmaa
set_option maxRecDepth 100000
open Go.RowKit

theorem info8 : (Try.prog.info? 5).map (fun i => (i.zero, i.size, i.bytes)) = some (some (.int .u8 0), 1, 1) := by kernel_rfl
def cells8 (l : List Nat) : List Value := l.map (fun (x : Nat) => Value.int .u8 (x : Int))
theorem own_keep {w w' : World} {base n : Nat} {v : Value} {xs : List Value} (h : w.ownsRow base 5 1 v n xs) (hb : Below w.heap.size w w') : w'.ownsRow base 5 1 v n xs := by
  refine ⟨h.1, ?_⟩
  rcases h.2 with h0 | ⟨g, cap, cur, rfl, hg, hh, h1, h2, h3, h4⟩
  · exact Or.inl h0
  · exact Or.inr ⟨g, cap, cur, rfl, hg, by rw [hb.block g (h.lt g rfl).2]; exact hh, h1, h2, h3, h4⟩

theorem own_rd {w : World} {base n : Nat} {v : Value} {f : Nat → Int} {xs : List Value} (h : w.ownsRow base 5 1 v n xs) (hx : ∀ j, j < n → xs[j]? = some (.int .u8 (f j))) (hn : 0 < n) : ∃ g cap, v = .slice (some ⟨g, 0, none⟩) n cap ∧ base ≤ g ∧ Row8 w g n f := by
  rcases h.2 with ⟨_, h0⟩ | ⟨g, cap, cur, rfl, hg, _⟩
  · omega
  · refine ⟨g, cap, rfl, hg, (h.lt g rfl).2, fun j hj => ?_, fun j _ => h.frozenAt j⟩
    rw [h.cellAt j (by omega)]; exact hx j hj
theorem cells8_at (l : List Nat) (i : Nat) (h : i < l.length) : (cells8 l)[i]? = some (Value.int .u8 ((l.getD i 0 : Nat) : Int)) := by
  simp [cells8, h]
theorem getD_lt {l : List Nat} (h : ∀ x ∈ l, x < 256) (i : Nat) : l.getD i 0 < 256 := by
  rw [List.getD_eq_getElem?_getD]
  by_cases hi : i < l.length
  · rw [List.getElem?_eq_getElem hi]; exact h _ (List.getElem_mem hi)
  · rw [List.getElem?_eq_none (by omega)]; simp
theorem Rd.first {w : World} {b o n : Nat} {f : Nat → Int} (h : Rd w b o n f) (m : Nat) (hm : m ≤ n) : Rd w b o m f := ⟨fun i hi => h.c i (by omega)⟩
end Go.Proofs.Ytjgpopjpmfkfmaa
namespace Go.Proofs.Ytjgpopjpmfkfmaa
set_option maxRecDepth 100000
open Go.RowKit

/-- Some bytes: none, or n from an address on. -/
structure BA (w : World) (a : Option Addr) (n : Nat) (f : Nat → Nat) : Prop where
  lt : ∀ i, f i < 256
  at_ : n = 0 ∨ ∃ b o, a = some ⟨b, o, none⟩ ∧ Rd w b o n (fun i => ((f i : Nat) : Int))
theorem BA.keep {W w1 : World} {a : Option Addr} {n : Nat} {f : Nat → Nat} (h : BA W a n f) (hb : Below W.heap.size W w1) : BA w1 a n f :=
  ⟨h.lt, h.at_.elim Or.inl fun ⟨b, o, e, hr⟩ => Or.inr ⟨b, o, e, hr.keep hb⟩⟩
/-- The first n bytes of f, as a list. -/
def fl (f : Nat → Nat) (n : Nat) : List Nat := (List.range n).map f
theorem fl_len (f : Nat → Nat) (n : Nat) : (fl f n).length = n := by simp [fl]
theorem fl_at (f : Nat → Nat) {n i : Nat} (h : i < n) : (fl f n)[i]? = some (f i) := by simp [fl, h]
theorem fl_lt {f : Nat → Nat} (hf : ∀ i, f i < 256) (n : Nat) : ∀ x ∈ fl f n, x < 256 := by
  intro x hx
  simp only [fl, List.mem_map] at hx
  obtain ⟨i, _, rfl⟩ := hx
  exact hf i
theorem cells8_len (l : List Nat) : (cells8 l).length = l.length := by simp [cells8]
theorem cells8_one (l : List Nat) : ∀ u ∈ cells8 l, u.oneCell' = true := by
  intro u hu
  simp only [cells8, List.mem_map] at hu
  obtain ⟨i, _, rfl⟩ := hu
  rfl
theorem run_append_zero {P : Program} (w : World) (base : Nat) (t ty e : TypeId) (i : TypeInfo) (size : Nat) (ht : P.underlying t = some (.slice e)) (hi : P.info? e = some i)
    (v : Value) (n : Nat) (xs : List Value) (hown : w.ownsRow base e size v n xs) (x : Option Addr) (c : Nat) :
    (Builtin.append_ #[t, t] ty #[v, .slice x 0 c]).run P w = .ok v w := by
  rcases hown.2 with ⟨rfl, rfl⟩ | ⟨g, cap, cur, rfl, _, _, hnc, _⟩
  · cases x <;> simp [Builtin.append_, run_underlying ht, sizeOf, typeInfo, hi, Builtin.lenOf, Builtin.firstCells, loadCells, loadCellsFrom]
  · cases x <;> simp [Builtin.append_, run_underlying ht, sizeOf, typeInfo, hi, Builtin.lenOf, Builtin.firstCells, hnc, storeCells, loadCells, loadCellsFrom]
/-- Bytes that are appended to a row of one's own. -/
theorem run_app {W : World} {base : Nat} {v : Value} {n : Nat} {l : List Nat} (hown : W.ownsRow base 5 1 v n (cells8 l)) {x : Option Addr} {m c : Nat} {f : Nat → Nat} (hx : BA W x m f) (hb : n + m ≤ 1000000) (hbase : base ≤ W.heap.size) (ty : TypeId) :
    ∃ v' w', (Builtin.append_ #[38, 38] ty #[v, .slice x m c]).run Try.prog W = .ok v' w' ∧ w'.ownsRow base 5 1 v' (n + m) (cells8 (l ++ fl f m)) ∧ W.grownBy w' v.ownBlock := by
  obtain ⟨i0, hi, hz0, hz1, hz2⟩ := info_parts info8
  rcases hx.at_ with rfl | ⟨b, o, rfl, hr⟩
  · refine ⟨v, W, run_append_zero W base _ _ 5 i0 1 Try.underlying38 hi v n _ hown x c, ?_, World.grownBy.refl _ _⟩
    rw [show fl f 0 = [] from rfl, List.append_nil]
    exact hown
  · obtain ⟨v', w', h1, h2, h3, _⟩ := run_append_own (P := Try.prog) W base 38 ty 5 i0 (.int .u8 0) 1 1 Try.underlying38 hi hz0 hz1 hz2 rfl (by decide) v n _ hown ⟨b, o, none⟩ m c (cells8 (fl f m)) (by rw [cells8_len, fl_len]; omega) (fun j u hu => by
      have hj : j < m := by
        rcases Nat.lt_or_ge j m with h' | h'
        · exact h'
        · rw [List.getElem?_eq_none (by rw [cells8_len, fl_len]; exact h')] at hu; cases hu
      have hc := hr.c j hj
      rw [cells8_at _ j (by rw [fl_len]; exact hj), List.getD_eq_getElem?_getD, fl_at f hj] at hu
      have ea : (⟨b, o, none⟩ : Addr).add j = ⟨b, o + j, none⟩ := by unfold Addr.add; split <;> simp_all
      rw [ea, hc]
      simpa using hu) (cells8_one _) (by unfold maxLen; omega) (by omega) hbase
    refine ⟨v', w', h1, ?_, h3⟩
    rw [show cells8 (l ++ fl f m) = cells8 l ++ cells8 (fl f m) from List.map_append]
    exact h2
theorem below_append {w0 w w' : World} {v : Value} {n : Nat} {xs : List Value} (h : Below w0.heap.size w0 w) (ho : w.ownsRow w0.heap.size 5 1 v n xs) (hg : w.grownBy w' v.ownBlock) : Below w0.heap.size w0 w' :=
  h.grown hg h.size (fun k hk => (ho.lt k hk).1)
theorem own_empty (w : World) (base : Nat) (hb : base ≤ w.heap.size) : (w.alloc (.cells #[] 5)).ownsRow base 5 1 (.slice (some ⟨w.heap.size, 0, none⟩) 0 0) 0 (cells8 []) :=
  World.ownsRow_made w #[] 0 hb (by decide) rfl
/-- The same, at a plain region's list. -/
theorem wpList_app {W : World} {ops : Array Oper} {rest : List Oper} {op : Oper} {a : Act} {Q : Exit → Act → World → Prop} (hgd : op.guard = none) (s x : Operand)
    (ho : op.op = .call { callee := .builtin .append, args := #[s, x], argTypes := #[38, 38] })
    {base : Nat} {v : Value} {n : Nat} {l : List Nat} (hs : a.eval s = v) (hown : W.ownsRow base 5 1 v n (cells8 l)) {y : Option Addr} {m c : Nat} {f : Nat → Nat} (hx : a.eval x = .slice y m c) (hy : BA W y m f) (hb : n + m ≤ 1000000) (hbase : base ≤ W.heap.size)
    (h : ∀ v' w', w'.ownsRow base 5 1 v' (n + m) (cells8 (l ++ fl f m)) → W.grownBy w' v.ownBlock → wpList Try.prog ops Q rest (a.put op.dst v') w') : wpList Try.prog ops Q (op :: rest) a W := by
  refine wpList_plain hgd fun K hK => ?_
  obtain ⟨v', w', hr, h2, h3⟩ := run_app (c := c) hown hy hb hbase op.type
  unfold Oper.wp execOp
  simp only [ho, resolve, invoke, builtin, Sem.run_bind, Sem.run_pure, Result.andThen_ok, List.map_toArray, List.map_cons, List.map_nil, hs, hx, hr]
  exact hK _ _ (h v' w' h2 h3)
end Go.Proofs.Ytjgpopjpmfkfmaa
namespace Go.Proofs.Ytjgpopjpmfkfmaa
set_option maxRecDepth 100000
open Go.RowKit

/-- Two texts, one behind the other. -/
def cat (f : Nat → Nat) (n : Nat) (g : Nat → Nat) (i : Nat) : Nat := if i < n then f i else g (i - n)
theorem own_max {w : World} {base n : Nat} {v : Value} {xs : List Value} (h : w.ownsRow base 5 1 v n xs) : ∃ a cap, v = .slice a n cap ∧ n ≤ cap ∧ cap ≤ maxLen := by
  rcases h.2 with ⟨rfl, rfl⟩ | ⟨g, cap, cur, rfl, _, _, h1, h2, _⟩
  · exact ⟨_, _, rfl, Nat.le_refl _, by unfold maxLen; omega⟩
  · exact ⟨_, _, rfl, h1, h2⟩
theorem own_ba {w : World} {base n cap : Nat} {a : Option Addr} {f : Nat → Nat} (h : w.ownsRow base 5 1 (.slice a n cap) n (cells8 (fl f n))) (hf : ∀ i, f i < 256) : BA w a n f := by
  refine ⟨hf, ?_⟩
  by_cases h0 : n = 0
  · exact Or.inl h0
  · obtain ⟨g, cap', hv, hg, hr⟩ := own_rd (f := fun i => ((f i : Nat) : Int)) h (fun j hj => by rw [cells8_at _ j (by rw [fl_len]; exact hj), List.getD_eq_getElem?_getD, fl_at f hj]; rfl) (by omega)
    cases hv
    exact Or.inr ⟨g, 0, rfl, hr.rd⟩
theorem fl_cat (f g : Nat → Nat) (n m : Nat) : fl f n ++ fl g m = fl (cat f n g) (n + m) := by
  apply List.ext_getElem?
  intro i
  by_cases h1 : i < n
  · rw [List.getElem?_append_left (by rw [fl_len]; exact h1), fl_at _ h1, fl_at _ (by omega)]
    unfold cat
    rw [if_pos h1]
  · rw [List.getElem?_append_right (by rw [fl_len]; omega), fl_len]
    by_cases h2 : i < n + m
    · rw [fl_at _ (by omega), fl_at _ h2]
      unfold cat
      rw [if_neg h1]
    · rw [List.getElem?_eq_none (by rw [fl_len]; omega), List.getElem?_eq_none (by rw [fl_len]; omega)]
end Go.Proofs.Ytjgpopjpmfkfmaa
