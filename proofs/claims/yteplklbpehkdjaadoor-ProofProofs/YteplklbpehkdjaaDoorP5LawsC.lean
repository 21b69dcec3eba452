/- The program's own Sum of one part, of two, of none. -/
import Derived.Test.YteplklbpehkdjaaDoorP5Sum
import Derived.Test.YteplklbpehkdjaaDoorS5Own
namespace Go.Proofs.YteplklbpehkdjaaDoor
set_option maxRecDepth 100000
open Go.RowKit
attribute [local go_sem ↓] Go.wp_at_zero Go.wp_at_succ

theorem sum_none {w : World} (hT : Tab w) (f : Nat → Nat) : Calls Tryd.prog 28 #[.slice none 0 0] w fun e w' => e = .returned (.agg (hA f 0)) ∧ Below w.heap.size w w' := by
  have h := sum_any (c := 0) (x := none) (k := 0) (A := fun _ => none) (L := fun _ => 0) (C := fun _ => 0) (G := fun _ _ => 0) hT ⟨fun i hi => by omega, fun i hi => by omega, Or.inl rfl⟩ (by omega) (by simp only [lenF]; omega)
  have e : hashS (catF (fun _ => 0) (fun _ _ => 0) 0) (lenF (fun _ => 0) 0) = hashS f 0 := hashS_congr (fun i hi => by simp only [lenF] at hi; omega)
  rw [e] at h
  unfold hA
  exact h
theorem sum_one {w : World} {x : Option Addr} {n c q : Nat} {g : Nat → Nat} (hT : Tab w) (hb : BA w x n g) (hc : n ≤ c) (hm : c ≤ maxLen) (hn : n ≤ 800000) (t : TypeId) (hq : q = w.heap.size) :
    Calls Tryd.prog 28 #[.slice (some ⟨q, 0, none⟩) 1 1] (w.alloc (.cells #[.slice x n c] t)) fun e w' => e = .returned (.agg (hA g n)) ∧ Below w.heap.size w w' := by
  subst hq
  have hk := K.alloc (Below.refl _ w) (.cells #[.slice x n c] t)
  have e1 : lenF (fun _ => n) 1 = n := by simp only [lenF]; omega
  have h := sum_any (c := 1) (x := some ⟨w.heap.size, 0, none⟩) (k := 1) (A := fun _ => x) (L := fun _ => n) (C := fun _ => c) (G := fun _ => g) (hT.keep hk) ⟨fun i _ => hb.keep hk, fun i _ => ⟨hc, hm⟩, Or.inr ⟨_, _, rfl, fun i hi => by
    obtain rfl : i = 0 := by omega
    rw [cell_of_row _ _ _ _ _ _ (heap_alloc_new w _)]; rfl⟩⟩ (by omega) (by rw [e1]; exact hn)
  have e : hashS (catF (fun _ => n) (fun _ => g) 1) (lenF (fun _ => n) 1) = hashS g n := by
    rw [e1]
    simp only [catF, lenF, cat_zero]
  rw [e] at h
  unfold hA
  exact Calls.mono h (fun e w' ⟨h1, h2⟩ => ⟨h1, K.call hk h2⟩)
theorem sum_two {w : World} {x y : Option Addr} {n c m d q : Nat} {g k : Nat → Nat} (hT : Tab w) (hb : BA w x n g) (hc : n ≤ c) (hm : c ≤ maxLen) (hb2 : BA w y m k) (hc2 : m ≤ d) (hm2 : d ≤ maxLen) (hn : n + m ≤ 800000) (t : TypeId) (hq : q = w.heap.size) :
    Calls Tryd.prog 28 #[.slice (some ⟨q, 0, none⟩) 2 2] (w.alloc (.cells #[.slice x n c, .slice y m d] t)) fun e w' => e = .returned (.agg (hA (cat g n k) (n + m))) ∧ Below w.heap.size w w' := by
  subst hq
  have hk := K.alloc (Below.refl _ w) (.cells #[.slice x n c, .slice y m d] t)
  have e1 : lenF (fun i => if i = 0 then n else m) 2 = n + m := by simp [lenF]
  have h := sum_any (c := 2) (x := some ⟨w.heap.size, 0, none⟩) (k := 2) (A := fun i => if i = 0 then x else y) (L := fun i => if i = 0 then n else m) (C := fun i => if i = 0 then c else d) (G := fun i => if i = 0 then g else k) (hT.keep hk) ⟨fun i hi => by
    rcases (show i = 0 ∨ i = 1 by omega) with rfl | rfl
    · exact hb.keep hk
    · exact hb2.keep hk, fun i hi => by
    rcases (show i = 0 ∨ i = 1 by omega) with rfl | rfl
    · exact ⟨hc, hm⟩
    · exact ⟨hc2, hm2⟩, Or.inr ⟨_, _, rfl, fun i hi => by
    rcases (show i = 0 ∨ i = 1 by omega) with rfl | rfl
    · rw [cell_of_row _ _ _ _ _ _ (heap_alloc_new w _)]; rfl
    · rw [cell_of_row _ _ _ _ _ _ (heap_alloc_new w _)]; rfl⟩⟩ (by omega) (by rw [e1]; exact hn)
  have e : hashS (catF (fun i => if i = 0 then n else m) (fun i => if i = 0 then g else k) 2) (lenF (fun i => if i = 0 then n else m) 2) = hashS (cat g n k) (n + m) := by
    rw [e1]
    simp [catF, lenF, cat_zero]
  rw [e] at h
  unfold hA
  exact Calls.mono h (fun e w' ⟨h1, h2⟩ => ⟨h1, K.call hk h2⟩)
/-- Two hashes that are one are the same. -/
theorem eqV (f : Nat → Nat) (n : Nat) (w : World) : (Op.equalIn 10000 32 (.agg (hA f n)) (.agg (hA f n))).run Tryd.prog w = .ok true w := by
  unfold hA
  exact eqH_same _ w
theorem dsum_hA {w : World} {b n : Nat} {f : Nat → Nat} (hT : Tab w) (hD : Dig w b f n) (hn : n ≤ 800000) :
    Calls Tryd.prog 36 #[.pointer (some ⟨b, 0, none⟩)] w fun e w' => e = .returned (.agg (hA f n)) ∧ Below w.heap.size w w' := by
  unfold hA
  exact dsum_any hT hD hn
theorem dsum_nil_hA {w : World} (f : Nat → Nat) (hT : Tab w) :
    Calls Tryd.prog 36 #[.pointer none] w fun e w' => e = .returned (.agg (hA f 0)) ∧ Below w.heap.size w w' := by
  unfold hA
  exact dsum_nil f rfl hT
set_option maxHeartbeats 4000000 in
theorem runEq (V U : Array Value) (x y : Operand) (r : Bool) (w : World) (q : (Op.equalIn 10000 32 (.agg V) (.agg U)).run Tryd.prog w = .ok r w) :
    (eqGuard .eql 32 x y (.agg V) (.agg U)).run Tryd.prog w = .ok () w ∧ (binOp .eql 32 (.agg V) (.agg U)).run Tryd.prog w = .ok (.bool r) w := by
  constructor
  · simp [go_sem]
  · simp only [go_sem, q, Result.andThen_ok]
set_option maxHeartbeats 4000000 in
theorem runNe (V U : Array Value) (x y : Operand) (r : Bool) (w : World) (q : (Op.equalIn 10000 32 (.agg V) (.agg U)).run Tryd.prog w = .ok r w) :
    (eqGuard .neq 32 x y (.agg V) (.agg U)).run Tryd.prog w = .ok () w ∧ (binOp .neq 32 (.agg V) (.agg U)).run Tryd.prog w = .ok (.bool (!r)) w := by
  constructor
  · simp [go_sem]
  · simp only [go_sem, q, Result.andThen_ok]
/-- Two hashes are compared, at a step of a plain region. -/
theorem wpList_eqH {w : World} {ops : Array Oper} {rest : List Oper} {op : Oper} {a : Act} {Q : Exit → Act → World → Prop} (hw : Region.wanted op (yielded ops a.tmps) = true) (x y : Operand) (t : TypeId) (ho : op.op = .binOp .eql 32 x y t)
    (V U : Array Value) (r : Bool) (hx : a.eval x = .agg V) (hy : a.eval y = .agg U) (q : (Op.equalIn 10000 32 (.agg V) (.agg U)).run Tryd.prog w = .ok r w) (h : wpList Tryd.prog ops Q rest (a.put op.dst (.bool r)) w) : wpList Tryd.prog ops Q (op :: rest) a w := by
  refine wpList_step fun K hK => ?_
  rw [if_pos hw]
  obtain ⟨h1, h2⟩ := runEq V U x y r w q
  unfold Oper.wp execOp
  simp only [ho, hx, hy, Sem.run_bind, Sem.run_pure, Result.andThen_ok, h1, h2]
  exact hK _ _ h
theorem wpList_neH {w : World} {ops : Array Oper} {rest : List Oper} {op : Oper} {a : Act} {Q : Exit → Act → World → Prop} (hw : Region.wanted op (yielded ops a.tmps) = true) (x y : Operand) (t : TypeId) (ho : op.op = .binOp .neq 32 x y t)
    (V U : Array Value) (r : Bool) (hx : a.eval x = .agg V) (hy : a.eval y = .agg U) (q : (Op.equalIn 10000 32 (.agg V) (.agg U)).run Tryd.prog w = .ok r w) (h : wpList Tryd.prog ops Q rest (a.put op.dst (.bool (!r))) w) : wpList Tryd.prog ops Q (op :: rest) a w := by
  refine wpList_step fun K hK => ?_
  rw [if_pos hw]
  obtain ⟨h1, h2⟩ := runNe V U x y r w q
  unfold Oper.wp execOp
  simp only [ho, hx, hy, Sem.run_bind, Sem.run_pure, Result.andThen_ok, h1, h2]
  exact hK _ _ h
/-- A digest's zero value, and a hash's. -/
theorem wpList_digZ {w : World} {ops : Array Oper} {rest : List Oper} {op : Oper} {a : Act} {Q : Exit → Act → World → Prop} (hw : Region.wanted op (yielded ops a.tmps) = true) (ho : op.op = .build 63 #[])
    (h : wpList Tryd.prog ops Q rest (a.put op.dst (.agg (dg st0 (fun _ => 0) 0).toArray)) w) : wpList Tryd.prog ops Q (op :: rest) a w := by
  refine wpList_step fun K hK => ?_
  rw [if_pos hw]
  have e : (Tryd.prog.built 63 []).getD #[] = (dg st0 (fun _ => 0) 0).toArray := by kernel_rfl
  refine wp_build 63 #[] ho (by kernel_rfl) (hK _ _ ?_)
  simp only [List.map_toArray, List.map_nil, e]
  exact h
theorem wpList_hashZ {w : World} {ops : Array Oper} {rest : List Oper} {op : Oper} {a : Act} {Q : Exit → Act → World → Prop} (hw : Region.wanted op (yielded ops a.tmps) = true) (ho : op.op = .build 32 #[])
    (h : wpList Tryd.prog ops Q rest (a.put op.dst (.agg (ab (fun _ => 0) 32).toArray)) w) : wpList Tryd.prog ops Q (op :: rest) a w := by
  refine wpList_step fun K hK => ?_
  rw [if_pos hw]
  have e : (Tryd.prog.built 32 []).getD #[] = (ab (fun _ => 0) 32).toArray := by kernel_rfl
  refine wp_build 32 #[] ho (by kernel_rfl) (hK _ _ ?_)
  simp only [List.map_toArray, List.map_nil, e]
  exact h
theorem dig_made (w : World) (t : TypeId) (f : Nat → Nat) : Dig (w.alloc (.cells (dg st0 (fun _ => 0) 0).toArray t)) w.heap.size f 0 :=
  ⟨st0, fun _ => 0, DigR.made w t st0 (fun _ => 0) 0 _ rfl, Or.inl rfl, fun _ => by show 0 < 256; omega, fun i hi => by omega⟩
theorem eqB_ne {f g : Nat → Nat} (h : f 0 ≠ g 0) : eqB f g 32 = false := decide_eq_false (fun e => h (e 0 (by omega)))
end Go.Proofs.YteplklbpehkdjaaDoor
