/- What the document's own Padded answers. What the document's own Sum answers. Two hashes are compared. Rows of bytes of one's own, as bytes that are handed on. The program's own Sum of one part, of two, of none. Single operations, as steps of a region that draws its order. A call of a function of the program, as a step of a region that draws its order. Layer 16: trees of hashes (no function of the program is named). -/
import Derived.Test.YtpokecijongkpaaDoorMD03
import Derived.Test.YtpokecijongkpaaDoorMD02
import Derived.Test.YtpokecijongkpaaDoorMD04
import Derived.Test.YtpokecijongkpaaDoorMD01
import Derived.Deep.LoopGhost
import Derived.Deep.DeepCutAuto
import Derived.Deep.RegionWith
namespace Go.Proofs.YtpokecijongkpaaDoor
set_option maxRecDepth 100000
open Go.RowKit
attribute [local go_sem ↓] Go.wp_at_zero Go.wp_at_succ

end Go.Proofs.YtpokecijongkpaaDoor
namespace Go.Proofs.YtpokecijongkpaaDoor
set_option maxRecDepth 100000
open Go.RowKit
attribute [local go_sem ↓] Go.wp_at_zero Go.wp_at_succ

end Go.Proofs.YtpokecijongkpaaDoor
namespace Go.Proofs.YtpokecijongkpaaDoor
set_option maxRecDepth 100000
open Go.RowKit

theorem itemsH (f g : Nat → Nat) (w : World) : ∀ (js : List Nat), (∀ j ∈ js, j < 32) →
    (Op.eqItems 9999 5 1 (ab f 32).toArray (ab g 32).toArray js).run Tryd.prog w = .ok (decide (∀ j ∈ js, f j = g j)) w
  | [], _ => rfl
  | j :: js, h => by
    have he : Tryd.prog.plainKey 5 = true := by kernel_rfl
    have hj := h j (by simp)
    have hx : (ab f 32).toArray[j]? = some (.int .u8 ((f j : Nat) : Int)) := by have := ab_at f hj; simpa using this
    have hy : (ab g 32).toArray[j]? = some (.int .u8 ((g j : Nat) : Int)) := by have := ab_at g hj; simpa using this
    have ih := itemsH f g w js (fun k hk => h k (by simp [hk]))
    simp only [Op.eqItems, Sem.run_bind, Nat.mul_one, run_part_plain w he hx, run_part_plain w he hy, Result.andThen_ok, run_equalIn_int w 9998 5 .u8 .u8 _ _ Tryd.underlying5]
    by_cases e : f j = g j
    · have hb : (((f j : Nat) : Int) == ((g j : Nat) : Int)) = true := by rw [e]; simp
      rw [hb]
      simp only [Bool.not_true, Bool.false_eq_true, if_false, ih]
      congr 1
      rw [Bool.eq_iff_iff, decide_eq_true_eq, decide_eq_true_eq]
      simp [e]
    · have hb : (((f j : Nat) : Int) == ((g j : Nat) : Int)) = false := beq_eq_false_iff_ne.2 (by omega)
      rw [hb]
      simp [e]
def eqB (f g : Nat → Nat) (n : Nat) : Bool := decide (∀ i, i < n → f i = g i)
/-- Two hashes are the same just if their bytes are. -/
theorem eqH (f g : Nat → Nat) (w : World) : (Op.equalIn 10000 24 (.agg (ab f 32).toArray) (.agg (ab g 32).toArray)).run Tryd.prog w = .ok (eqB f g 32) w := by
  obtain ⟨i, hi⟩ := Option.isSome_iff_exists.1 (show (Tryd.prog.info? 5).isSome = true by kernel_rfl)
  rw [run_equalIn_array w 9999 _ _ Tryd.underlying24 hi, show Tryd.prog.cellsOf 5 = 1 by kernel_rfl, itemsH f g w _ (fun j hj => List.mem_range.1 hj)]
  congr 1
  unfold eqB
  rw [Bool.eq_iff_iff, decide_eq_true_eq, decide_eq_true_eq]
  simp
end Go.Proofs.YtpokecijongkpaaDoor
namespace Go.Proofs.YtpokecijongkpaaDoor
set_option maxRecDepth 100000
open Go.RowKit

/-- A hash's block, as bytes. -/
theorem RowB.ba {w : World} {b n : Nat} {f : Nat → Nat} (h : RowB w b n f) (hf : ∀ i, f i < 256) : BA w (some ⟨b, 0, none⟩) n f := ⟨hf, Or.inr ⟨b, 0, rfl, Row8.rd h⟩⟩
end Go.Proofs.YtpokecijongkpaaDoor
namespace Go.Proofs.YtpokecijongkpaaDoor
set_option maxRecDepth 100000
open Go.RowKit
attribute [local go_sem ↓] Go.wp_at_zero Go.wp_at_succ

theorem sum_none {w : World} (hT : Tab w) (f : Nat → Nat) : Calls Tryd.prog 31 #[.slice none 0 0] w fun e w' => e = .returned (.agg (hA f 0)) ∧ Below w.heap.size w w' := by
  have h := sum_any (c := 0) (x := none) (k := 0) (A := fun _ => none) (L := fun _ => 0) (C := fun _ => 0) (G := fun _ _ => 0) hT ⟨fun i hi => by omega, fun i hi => by omega, Or.inl rfl⟩ (by omega) (by simp only [lenF]; omega)
  have e : hashS (catF (fun _ => 0) (fun _ _ => 0) 0) (lenF (fun _ => 0) 0) = hashS f 0 := hashS_congr (fun i hi => by simp only [lenF] at hi; omega)
  rw [e] at h
  unfold hA
  exact h
theorem sum_two {w : World} {x y : Option Addr} {n c m d q : Nat} {g k : Nat → Nat} (hT : Tab w) (hb : BA w x n g) (hc : n ≤ c) (hm : c ≤ maxLen) (hb2 : BA w y m k) (hc2 : m ≤ d) (hm2 : d ≤ maxLen) (hn : n + m ≤ 800000) (t : TypeId) (hq : q = w.heap.size) :
    Calls Tryd.prog 31 #[.slice (some ⟨q, 0, none⟩) 2 2] (w.alloc (.cells #[.slice x n c, .slice y m d] t)) fun e w' => e = .returned (.agg (hA (cat g n k) (n + m))) ∧ Below w.heap.size w w' := by
  subst hq
  have hk := K.alloc (Below.refl _ w) (.cells #[.slice x n c, .slice y m d] t)
  have e1 : lenF (fun i => if i = 0 then n else m) 2 = n + m := by simp [lenF]
  have h := sum_any (c := 2) (x := some ⟨w.heap.size, 0, none⟩) (k := 2) (A := fun i => if i = 0 then x else y) (L := fun i => if i = 0 then n else m) (C := fun i => if i = 0 then c else d) (G := fun i => if i = 0 then g else k) (hT.keep hk) ⟨fun i hi => by
    rcases (show i = 0 ∨ i = 1 by omega) with rfl | rfl
    · exact hb.keep hk
    · exact hb2.keep hk, fun i hi => by
    rcases (show i = 0 ∨ i = 1 by omega) with rfl | rfl
    · exact ⟨hc, hm⟩
    · exact ⟨hc2, hm2⟩, Or.inr ⟨_, _, rfl, fun i hi => by
    rcases (show i = 0 ∨ i = 1 by omega) with rfl | rfl
    · rw [cell_of_row _ _ _ _ _ _ (heap_alloc_new w _)]; rfl
    · rw [cell_of_row _ _ _ _ _ _ (heap_alloc_new w _)]; rfl⟩⟩ (by omega) (by rw [e1]; exact hn)
  have e : hashS (catF (fun i => if i = 0 then n else m) (fun i => if i = 0 then g else k) 2) (lenF (fun i => if i = 0 then n else m) 2) = hashS (cat g n k) (n + m) := by
    rw [e1]
    simp [catF, lenF, cat_zero]
  rw [e] at h
  unfold hA
  exact Calls.mono h (fun e w' ⟨h1, h2⟩ => ⟨h1, K.call hk h2⟩)
set_option maxHeartbeats 4000000 in
theorem runEq (V U : Array Value) (x y : Operand) (r : Bool) (w : World) (q : (Op.equalIn 10000 24 (.agg V) (.agg U)).run Tryd.prog w = .ok r w) :
    (eqGuard .eql 24 x y (.agg V) (.agg U)).run Tryd.prog w = .ok () w ∧ (binOp .eql 24 (.agg V) (.agg U)).run Tryd.prog w = .ok (.bool r) w := by
  constructor
  · simp [go_sem]
  · simp only [go_sem, q, Result.andThen_ok]
set_option maxHeartbeats 4000000 in
theorem runNe (V U : Array Value) (x y : Operand) (r : Bool) (w : World) (q : (Op.equalIn 10000 24 (.agg V) (.agg U)).run Tryd.prog w = .ok r w) :
    (eqGuard .neq 24 x y (.agg V) (.agg U)).run Tryd.prog w = .ok () w ∧ (binOp .neq 24 (.agg V) (.agg U)).run Tryd.prog w = .ok (.bool (!r)) w := by
  constructor
  · simp [go_sem]
  · simp only [go_sem, q, Result.andThen_ok]
/-- Two hashes are compared, at a step of a plain region. -/
theorem wpList_eqH {w : World} {ops : Array Oper} {rest : List Oper} {op : Oper} {a : Act} {Q : Exit → Act → World → Prop} (hw : Region.wanted op (yielded ops a.tmps) = true) (x y : Operand) (t : TypeId) (ho : op.op = .binOp .eql 24 x y t)
    (V U : Array Value) (r : Bool) (hx : a.eval x = .agg V) (hy : a.eval y = .agg U) (q : (Op.equalIn 10000 24 (.agg V) (.agg U)).run Tryd.prog w = .ok r w) (h : wpList Tryd.prog ops Q rest (a.put op.dst (.bool r)) w) : wpList Tryd.prog ops Q (op :: rest) a w := by
  refine wpList_step fun K hK => ?_
  rw [if_pos hw]
  obtain ⟨h1, h2⟩ := runEq V U x y r w q
  unfold Oper.wp execOp
  simp only [ho, hx, hy, Sem.run_bind, Sem.run_pure, Result.andThen_ok, h1, h2]
  exact hK _ _ h
theorem wpList_neH {w : World} {ops : Array Oper} {rest : List Oper} {op : Oper} {a : Act} {Q : Exit → Act → World → Prop} (hw : Region.wanted op (yielded ops a.tmps) = true) (x y : Operand) (t : TypeId) (ho : op.op = .binOp .neq 24 x y t)
    (V U : Array Value) (r : Bool) (hx : a.eval x = .agg V) (hy : a.eval y = .agg U) (q : (Op.equalIn 10000 24 (.agg V) (.agg U)).run Tryd.prog w = .ok r w) (h : wpList Tryd.prog ops Q rest (a.put op.dst (.bool (!r))) w) : wpList Tryd.prog ops Q (op :: rest) a w := by
  refine wpList_step fun K hK => ?_
  rw [if_pos hw]
  obtain ⟨h1, h2⟩ := runNe V U x y r w q
  unfold Oper.wp execOp
  simp only [ho, hx, hy, Sem.run_bind, Sem.run_pure, Result.andThen_ok, h1, h2]
  exact hK _ _ h
end Go.Proofs.YtpokecijongkpaaDoor
namespace Go.Proofs.YtpokecijongkpaaDoor
set_option maxRecDepth 100000
open Go.RowKit

theorem wp_sum {op : Oper} {a : Act} {w : World} {Kt : Act → World → Prop} {Q : Exit → Act → World → Prop} {x : Operand} {v r : Value} (ho : op.op = .call { callee := .value (.func 31), args := #[x], argTypes := #[66] }) (hx : a.eval x = v)
    (hC : Calls Tryd.prog 31 #[v] w fun e w' => e = .returned r ∧ Below w.heap.size w w') (h : ∀ w', Below w.heap.size w w' → Kt (a.put op.dst r) w') : Oper.wp Tryd.prog op a w Kt Q := by
  have hf : a.eval (.func 31) = .func (.func 31) #[] #[] := rfl
  unfold Oper.wp execOp
  simp only [ho, resolve, invoke, hf, Deferred.ofValue, List.map_toArray, List.map_cons, List.map_nil, hx, Sem.run_bind, Sem.run_pure, Result.andThen_ok]
  go_simp
  refine Calls.mono hC ?_
  rintro e w' ⟨rfl, hb⟩
  exact h w' hb
end Go.Proofs.YtpokecijongkpaaDoor
namespace Go.Proofs.YtpokecijongkpaaDoor
set_option maxRecDepth 100000
open Go.RowKit

theorem wanted_pos {c : Bool} {A B : Prop} (h : c = true) (a : A) : if c = true then A else B := by rw [if_pos h]; exact a
theorem wp_call {F : Nat} {op : Oper} {a : Act} {w : World} {Kt : Act → World → Prop} {Q : Exit → Act → World → Prop} {xs : Array Operand} {ts : Array TypeId} {vs : Array Value} {R : Value → World → Prop} (ho : op.op = .call { callee := .value (.func F), args := xs, argTypes := ts }) (hx : xs.map a.eval = vs) (hE : (callFunc F vs).run Tryd.prog w = .ok (.enter F vs) w)
    (hC : Calls Tryd.prog F vs w fun e w' => ∃ r, e = .returned r ∧ R r w') (h : ∀ r w', R r w' → Kt (a.put op.dst r) w') : Oper.wp Tryd.prog op a w Kt Q := by
  have hf : a.eval (.func F) = .func (.func F) #[] #[] := rfl
  unfold Oper.wp execOp
  simp only [ho, resolve, invoke, hf, Deferred.ofValue, hx, Sem.run_bind, Sem.run_pure, Result.andThen_ok]
  rw [show (#[] ++ vs ++ #[] : Array Value) = vs by simp, hE, Oper.upon_enter]
  refine Calls.mono hC ?_
  rintro e w' ⟨r, rfl, hr⟩
  exact h r w' hr
end Go.Proofs.YtpokecijongkpaaDoor
namespace Go.Proofs.YtpokecijongkpaaDoor
set_option maxRecDepth 100000
open Go.RowKit

/-- The greatest power of two below n. -/
def sp (n : Nat) : Nat := if n < 2 then 0 else 2 ^ (n - 1).log2
theorem sp_small {n : Nat} (h : n < 2) : sp n = 0 := if_pos h
theorem sp_pow {n : Nat} (h : 2 ≤ n) : sp n = 2 ^ (n - 1).log2 := if_neg (by omega)
theorem sp_lt {n : Nat} (h : 2 ≤ n) : sp n < n := by
  rw [sp_pow h]
  have := Nat.log2_self_le (n := n - 1) (by omega)
  omega
theorem sp_pos {n : Nat} (h : 2 ≤ n) : 1 ≤ sp n := by
  rw [sp_pow h]
  exact Nat.two_pow_pos _
theorem sp_le {n : Nat} (h : 2 ≤ n) : n ≤ 2 * sp n := by
  rw [sp_pow h]
  have : n - 1 < 2 ^ ((n - 1).log2 + 1) := Nat.lt_log2_self
  rw [Nat.pow_succ] at this
  omega
theorem sp_of {n k : Nat} (h1 : 2 ^ k < n) (h2 : n ≤ 2 * 2 ^ k) : sp n = 2 ^ k := by
  have hp := Nat.two_pow_pos k
  rw [sp_pow (by omega)]
  congr 1
  rw [Nat.log2_eq_iff (by omega), Nat.pow_succ]
  omega
/-- The text of two hashes, and its hash. -/
def ndT (f g : Nat → Nat) : Nat → Nat := cat (fun _ => 1) 1 (cat f 32 g)
def nd (f g : Nat → Nat) : Nat → Nat := hByte (hashS (ndT f g) 65)
/-- The hash of an entry. -/
def lf (f : Nat → Nat) (n : Nat) : Nat → Nat := hByte (hashS (cat (fun _ => 0) 1 f) (1 + n))
/-- The hash of nothing. -/
def e0 : Nat → Nat := hByte (hashS (fun _ => 0) 0)
/-- The root of n hashes. -/
def rt (F : Nat → Nat → Nat) (n : Nat) : Nat → Nat :=
  if _h : n < 2 then (if n = 0 then e0 else F 0) else nd (rt F (sp n)) (rt (fun i => F (sp n + i)) (n - sp n))
termination_by n
decreasing_by
  · exact sp_lt (by omega)
  · have := sp_pos (n := n) (by omega)
    omega
theorem rt_zero (F : Nat → Nat → Nat) : rt F 0 = e0 := by rw [rt, dif_pos (by omega), if_pos rfl]
theorem rt_one (F : Nat → Nat → Nat) : rt F 1 = F 0 := by rw [rt, dif_pos (by omega), if_neg (by omega)]
theorem rt_more (F : Nat → Nat → Nat) {n : Nat} (h : 2 ≤ n) : rt F n = nd (rt F (sp n)) (rt (fun i => F (sp n + i)) (n - sp n)) := by rw [rt, dif_neg (by omega)]
theorem hByte_lt' (s : St) (i : Nat) : hByte s i < 256 := Nat.mod_lt _ (by omega)
theorem nd_lt (f g : Nat → Nat) (i : Nat) : nd f g i < 256 := hByte_lt' _ _
theorem ndT_lt {f g : Nat → Nat} (hf : ∀ i, f i < 256) (hg : ∀ i, g i < 256) (i : Nat) : ndT f g i < 256 := cat_lt (fun _ => by omega) (cat_lt hf hg 32) 1 i
theorem rt_lt {F : Nat → Nat → Nat} (hF : ∀ i j, F i j < 256) (n j : Nat) : rt F n j < 256 := by
  by_cases h : n < 2
  · rw [rt, dif_pos h]
    split
    · exact hByte_lt' _ _
    · exact hF _ _
  · rw [rt_more F (by omega)]
    exact nd_lt _ _ _
theorem nd_congr {f g f' g' : Nat → Nat} (h1 : ∀ j, j < 32 → f j = f' j) (h2 : ∀ j, j < 32 → g j = g' j) : nd f g = nd f' g' := by
  unfold nd
  rw [hashS_congr (f := ndT f g) (g := ndT f' g') (fun i hi => ?_)]
  unfold ndT cat
  by_cases e1 : i < 1
  · rw [if_pos e1, if_pos e1]
  · rw [if_neg e1, if_neg e1]
    by_cases e2 : i - 1 < 32
    · rw [if_pos e2, if_pos e2, h1 _ e2]
    · rw [if_neg e2, if_neg e2, h2 _ (by omega)]
/-- A hash, as a value. -/
def hv (f : Nat → Nat) : Value := .agg (ab f 32).toArray
/-- Hashes in memory. -/
structure HL (w : World) (x : Option Addr) (n : Nat) (F : Nat → Nat → Nat) : Prop where
  lt : ∀ i j, F i j < 256
  at_ : n = 0 ∨ ∃ b o, x = some ⟨b, o, none⟩ ∧ ∀ i, i < n → w.rangeAt b (o + i * 32) (ab (F i) 32)
theorem range_keep {W w1 : World} {b o : Nat} {vs : List Value} (h : W.rangeAt b o vs) (hb : Below W.heap.size W w1) : w1.rangeAt b o vs := fun j v hv => later hb (h j v hv)
theorem HL.keep {W w1 : World} {x : Option Addr} {n : Nat} {F : Nat → Nat → Nat} (h : HL W x n F) (hb : Below W.heap.size W w1) : HL w1 x n F :=
  ⟨h.lt, h.at_.elim Or.inl fun ⟨b, o, e, hc⟩ => Or.inr ⟨b, o, e, fun i hi => range_keep (hc i hi) hb⟩⟩
theorem HL.head {w : World} {x : Option Addr} {n : Nat} {F : Nat → Nat → Nat} (h : HL w x n F) (m : Nat) (hm : m ≤ n) : HL w x m F :=
  ⟨h.lt, h.at_.elim (fun h0 => Or.inl (by omega)) fun ⟨b, o, e, hc⟩ => Or.inr ⟨b, o, e, fun i hi => hc i (by omega)⟩⟩
end Go.Proofs.YtpokecijongkpaaDoor
