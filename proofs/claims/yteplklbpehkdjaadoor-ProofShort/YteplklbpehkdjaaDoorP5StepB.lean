/- Single operations, as steps of a region that draws its order. -/
import Derived.Test.YteplklbpehkdjaaDoorP5LawsC
namespace Go.Proofs.YteplklbpehkdjaaDoor
set_option maxRecDepth 100000
open Go.RowKit

theorem wp_sum {op : Oper} {a : Act} {w : World} {Kt : Act → World → Prop} {Q : Exit → Act → World → Prop} {x : Operand} {v r : Value} (ho : op.op = .call { callee := .value (.func 28), args := #[x], argTypes := #[58] }) (hx : a.eval x = v)
    (hC : Calls Tryd.prog 28 #[v] w fun e w' => e = .returned r ∧ Below w.heap.size w w') (h : ∀ w', Below w.heap.size w w' → Kt (a.put op.dst r) w') : Oper.wp Tryd.prog op a w Kt Q := by
  have hf : a.eval (.func 28) = .func (.func 28) #[] #[] := rfl
  unfold Oper.wp execOp
  simp only [ho, resolve, invoke, hf, Deferred.ofValue, List.map_toArray, List.map_cons, List.map_nil, hx, Sem.run_bind, Sem.run_pure, Result.andThen_ok]
  go_simp
  refine Calls.mono hC ?_
  rintro e w' ⟨rfl, hb⟩
  exact h w' hb
theorem wp_dsum {op : Oper} {a : Act} {w : World} {Kt : Act → World → Prop} {Q : Exit → Act → World → Prop} {x : Operand} {v r : Value} (ho : op.op = .call { callee := .value (.func 36), args := #[x], argTypes := #[66] }) (hx : a.eval x = v)
    (hC : Calls Tryd.prog 36 #[v] w fun e w' => e = .returned r ∧ Below w.heap.size w w') (h : ∀ w', Below w.heap.size w w' → Kt (a.put op.dst r) w') : Oper.wp Tryd.prog op a w Kt Q := by
  have hf : a.eval (.func 36) = .func (.func 36) #[] #[] := rfl
  unfold Oper.wp execOp
  simp only [ho, resolve, invoke, hf, Deferred.ofValue, List.map_toArray, List.map_cons, List.map_nil, hx, Sem.run_bind, Sem.run_pure, Result.andThen_ok]
  go_simp
  refine Calls.mono hC ?_
  rintro e w' ⟨rfl, hb⟩
  exact h w' hb
theorem wp_neH {op : Oper} {a : Act} {w : World} {Kt : Act → World → Prop} {Q : Exit → Act → World → Prop} {x y : Operand} {t : TypeId} {V U : Array Value} {r : Bool} (ho : op.op = .binOp .neq 32 x y t)
    (hx : a.eval x = .agg V) (hy : a.eval y = .agg U) (q : (Op.equalIn 10000 32 (.agg V) (.agg U)).run Tryd.prog w = .ok r w) (h : Kt (a.put op.dst (.bool (!r))) w) : Oper.wp Tryd.prog op a w Kt Q := by
  obtain ⟨h1, h2⟩ := runNe V U x y r w q
  unfold Oper.wp execOp
  simp only [ho, hx, hy, Sem.run_bind, Sem.run_pure, Result.andThen_ok, h1, h2]
  exact h
theorem wp_hash {op : Oper} {a : Act} {w : World} {Kt : Act → World → Prop} {Q : Exit → Act → World → Prop} (ho : op.op = .alloc 32)
    (h : ∀ p W', p = w.heap.size → RowB W' p 32 (fun _ => 0) → Below w.heap.size w W' → Kt (a.put op.dst (.pointer (some ⟨p, 0, none⟩))) W') : Oper.wp Tryd.prog op a w Kt Q := by
  have h' := h w.heap.size (w.alloc (.cells (ab (fun _ => 0) 32).toArray 32)) rfl (RowB.made w 32 32 (fun _ => 0) _ rfl) (K.alloc (Below.refl _ _) _)
  rw [← zeros32] at h'
  unfold Oper.wp execOp
  simp only [ho]
  go_simp
  exact h'
theorem wp_one {op : Oper} {a : Act} {w : World} {Kt : Act → World → Prop} {Q : Exit → Act → World → Prop} {x : Operand} {y : Option Addr} {n c : Nat} (ho : op.op = .buildSlice 58 1 #[(0, x)]) (hx : a.eval x = .slice y n c)
    (h : ∀ p W', p = w.heap.size → W'.cell? ⟨p, 0, none⟩ = some (.slice y n c) → Below w.heap.size w W' → Kt (a.put op.dst (.slice (some ⟨p, 0, none⟩) 1 1)) W') : Oper.wp Tryd.prog op a w Kt Q := by
  have h' := h w.heap.size (w.alloc (.cells #[.slice y n c] 41)) rfl (by rw [cell_of_row _ _ _ _ _ _ (heap_alloc_new w _)]; rfl) (K.alloc (Below.refl _ _) _)
  unfold Oper.wp execOp
  simp only [ho, List.map_toArray, List.map_cons, List.map_nil, hx]
  go_simp
  exact h'
theorem wp_two {op : Oper} {a : Act} {w : World} {Kt : Act → World → Prop} {Q : Exit → Act → World → Prop} {x1 x2 : Operand} {y z : Option Addr} {n c m d : Nat} (ho : op.op = .buildSlice 58 2 #[(0, x1), (1, x2)]) (hx : a.eval x1 = .slice y n c) (hz : a.eval x2 = .slice z m d)
    (h : ∀ p W', p = w.heap.size → W'.cell? ⟨p, 0, none⟩ = some (.slice y n c) → W'.cell? ⟨p, 1, none⟩ = some (.slice z m d) → Below w.heap.size w W' → Kt (a.put op.dst (.slice (some ⟨p, 0, none⟩) 2 2)) W') : Oper.wp Tryd.prog op a w Kt Q := by
  have h' := h w.heap.size (w.alloc (.cells #[.slice y n c, .slice z m d] 41)) rfl (by rw [cell_of_row _ _ _ _ _ _ (heap_alloc_new w _)]; rfl) (by rw [cell_of_row _ _ _ _ _ _ (heap_alloc_new w _)]; rfl) (K.alloc (Below.refl _ _) _)
  unfold Oper.wp execOp
  simp only [ho, List.map_toArray, List.map_cons, List.map_nil, hx, hz]
  go_simp
  exact h'
/-- The program's own Sum of parts that lie somewhere. -/
theorem sum_one_at {w : World} {x : Option Addr} {n c q : Nat} {g : Nat → Nat} (hT : Tab w) (hb : BA w x n g) (hc : n ≤ c) (hm : c ≤ maxLen) (hn : n ≤ 800000) (hq : w.cell? ⟨q, 0, none⟩ = some (.slice x n c)) :
    Calls Tryd.prog 28 #[.slice (some ⟨q, 0, none⟩) 1 1] w fun e w' => e = .returned (.agg (hA g n)) ∧ Below w.heap.size w w' := by
  have e1 : lenF (fun _ => n) 1 = n := by simp only [lenF]; omega
  have h := sum_any (c := 1) (x := some ⟨q, 0, none⟩) (k := 1) (A := fun _ => x) (L := fun _ => n) (C := fun _ => c) (G := fun _ => g) hT ⟨fun i _ => hb, fun i _ => ⟨hc, hm⟩, Or.inr ⟨_, _, rfl, fun i hi => by
    obtain rfl : i = 0 := by omega
    exact hq⟩⟩ (by omega) (by rw [e1]; exact hn)
  have e : hashS (catF (fun _ => n) (fun _ => g) 1) (lenF (fun _ => n) 1) = hashS g n := by
    rw [e1]
    simp only [catF, lenF, cat_zero]
  rw [e] at h
  unfold hA
  exact h
theorem sum_two_at {w : World} {x y : Option Addr} {n c m d q : Nat} {g k : Nat → Nat} (hT : Tab w) (hb : BA w x n g) (hc : n ≤ c) (hm : c ≤ maxLen) (hb2 : BA w y m k) (hc2 : m ≤ d) (hm2 : d ≤ maxLen) (hn : n + m ≤ 800000) (hq : w.cell? ⟨q, 0, none⟩ = some (.slice x n c)) (hq2 : w.cell? ⟨q, 1, none⟩ = some (.slice y m d)) :
    Calls Tryd.prog 28 #[.slice (some ⟨q, 0, none⟩) 2 2] w fun e w' => e = .returned (.agg (hA (cat g n k) (n + m))) ∧ Below w.heap.size w w' := by
  have e1 : lenF (fun i => if i = 0 then n else m) 2 = n + m := by simp [lenF]
  have h := sum_any (c := 2) (x := some ⟨q, 0, none⟩) (k := 2) (A := fun i => if i = 0 then x else y) (L := fun i => if i = 0 then n else m) (C := fun i => if i = 0 then c else d) (G := fun i => if i = 0 then g else k) hT ⟨fun i hi => by
    rcases (show i = 0 ∨ i = 1 by omega) with rfl | rfl
    · exact hb
    · exact hb2, fun i hi => by
    rcases (show i = 0 ∨ i = 1 by omega) with rfl | rfl
    · exact ⟨hc, hm⟩
    · exact ⟨hc2, hm2⟩, Or.inr ⟨_, _, rfl, fun i hi => by
    rcases (show i = 0 ∨ i = 1 by omega) with rfl | rfl
    · exact hq
    · exact hq2⟩⟩ (by omega) (by rw [e1]; exact hn)
  have e : hashS (catF (fun i => if i = 0 then n else m) (fun i => if i = 0 then g else k) 2) (lenF (fun i => if i = 0 then n else m) 2) = hashS (cat g n k) (n + m) := by
    rw [e1]
    simp [catF, lenF, cat_zero]
  rw [e] at h
  unfold hA
  exact h
/-- Cuts of bytes that are handed in. -/
def cutA (a : Option Addr) (c k : Nat) : Option Addr := if c = k then a else a.map (·.add k)
theorem run_cutA {a : Option Addr} {n c k : Nat} (hk : k ≤ n) (W : World) : (Instr.slice 41 (.slice a n c) (some (.int .i64 (k : Int))) none none).run Tryd.prog W = .ok (.slice (cutA a c k) (n - k) (c - k)) W := by
  have hu : Tryd.prog.underlying 41 = some (.slice (Tryd.prog.elem 41)) := by kernel_rfl
  have he : Tryd.prog.elem 41 = 5 := by kernel_rfl
  have h1 : (sizeOf 5).run Tryd.prog W = .ok 1 W := by
    obtain ⟨i, hi⟩ := Option.isSome_iff_exists.1 (show (Tryd.prog.info? 5).isSome = true by kernel_rfl)
    have : (Tryd.prog.info? 5).map (·.size) = some 1 := by kernel_rfl
    rw [hi] at this
    simp [sizeOf, typeInfo, hi]
    simpa using this
  rw [run_slice_l W 41 _ n c hu .i64 (k : Int) (by omega) (by omega), he, h1]
  simp only [Result.andThen_ok, sliced, Int.toNat_natCast, Nat.mul_one, cutA]
theorem run_firstA {a : Option Addr} {n c k : Nat} (hk : k ≤ n) (hc : n ≤ c) (W : World) : (Instr.slice 41 (.slice a n c) none (some (.int .i64 (k : Int))) none).run Tryd.prog W = .ok (.slice (cutA a c 0) k c) W := by
  have hu : Tryd.prog.underlying 41 = some (.slice (Tryd.prog.elem 41)) := by kernel_rfl
  have he : Tryd.prog.elem 41 = 5 := by kernel_rfl
  have h1 : (sizeOf 5).run Tryd.prog W = .ok 1 W := by
    obtain ⟨i, hi⟩ := Option.isSome_iff_exists.1 (show (Tryd.prog.info? 5).isSome = true by kernel_rfl)
    have : (Tryd.prog.info? 5).map (·.size) = some 1 := by kernel_rfl
    rw [hi] at this
    simp [sizeOf, typeInfo, hi]
    simpa using this
  rw [run_slice_h W 41 _ n c hu .i64 (k : Int) (by omega) (by omega), he, h1]
  simp only [Result.andThen_ok, sliced, Int.toNat_natCast, Nat.mul_one, cutA, Nat.sub_zero]
theorem run_midA {a : Option Addr} {n c k m : Nat} (hk : k ≤ m) (hc : m ≤ c) (W : World) : (Instr.slice 41 (.slice a n c) (some (.int .i64 (k : Int))) (some (.int .i64 (m : Int))) none).run Tryd.prog W = .ok (.slice (cutA a c k) (m - k) (c - k)) W := by
  have hu : Tryd.prog.underlying 41 = some (.slice (Tryd.prog.elem 41)) := by kernel_rfl
  have he : Tryd.prog.elem 41 = 5 := by kernel_rfl
  have h1 : (sizeOf 5).run Tryd.prog W = .ok 1 W := by
    obtain ⟨i, hi⟩ := Option.isSome_iff_exists.1 (show (Tryd.prog.info? 5).isSome = true by kernel_rfl)
    have : (Tryd.prog.info? 5).map (·.size) = some 1 := by kernel_rfl
    rw [hi] at this
    simp [sizeOf, typeInfo, hi]
    simpa using this
  rw [run_slice_lh W 41 _ n c hu .i64 .i64 (k : Int) (m : Int) (by omega) (by omega) (by omega), he, h1]
  simp only [Result.andThen_ok, sliced, Int.toNat_natCast, Nat.mul_one, cutA]
theorem BA.cut {w : World} {a : Option Addr} {n : Nat} {f : Nat → Nat} (h : BA w a n f) (c k m : Nat) (hk : k + m ≤ n) (hc : n ≤ c) : BA w (cutA a c k) m (fun i => f (k + i)) := by
  refine ⟨fun i => h.lt _, ?_⟩
  by_cases h0 : m = 0
  · exact Or.inl h0
  · rcases h.at_ with hn | ⟨b, o, rfl, hr⟩
    · omega
    · refine Or.inr ⟨b, o + k, ?_, hr.part k m hk⟩
      unfold cutA
      rw [if_neg (by omega), Option.map_some, Addr.add_mid]
end Go.Proofs.YteplklbpehkdjaaDoor
