/- Layer 13: the program's New. -/
import Derived.Test.YtpophfeommlajaaMP12
namespace Go.Proofs.Ytpophfeommlajaa
set_option maxRecDepth 100000
open Go.RowKit Go.Maps
attribute [local go_sem ↓] Go.wp_at_zero Go.wp_at_succ

def z64 : List Nat := List.replicate 64 0
theorem z64_sec : sec z64 := ⟨rfl, fun x hx => by have := List.eq_of_mem_replicate hx; omega⟩
theorem infoSec : (Try.prog.info? 93).map (fun i => (i.zero, i.size, i.bytes)) = some (some (secV z64), 64, 64) := by kernel_rfl
theorem sizeSec : (Try.prog.info? 93).map (·.size) = some 64 := by kernel_rfl
theorem made_at (n i : Nat) (h : i < n) : (madeCells (secV z64).cells n)[i]? = some (.int .u8 0) := by
  have e : (secV z64).cells = Array.replicate 64 (.int .u8 0) := by
    show ((List.replicate 64 0).map _).toArray = _
    rw [List.map_replicate, List.toArray_replicate]
    rfl
  rw [e]
  have hz : (Array.replicate 64 (Value.int .u8 0))[i % 64]! = .int .u8 0 := by
    rw [getElem!_pos (Array.replicate 64 (Value.int .u8 0)) (i % 64) (by simp; omega)]
    simp
  simp only [madeCells, Array.size_replicate, Array.getElem?_map, Array.getElem?_range, h, if_true, Option.map_some, hz]
/-- A disk that was just made. -/
def DM.new (n : Nat) : DM := ⟨n, fun _ => z64, fun _ => none, none, false⟩
theorem DM.new_ok {n : Nat} (h : n ≤ 4096) : (DM.new n).ok := ⟨h, fun _ => z64_sec, fun i l h => (by cases h), fun k h => (by cases h)⟩
theorem wpList_make_secs (w : World) {ops : Array Oper} {rest : List Oper} {o : Oper} {a : Act} {Q : Exit → Act → World → Prop} (hgd : o.guard = none) (l c : Operand) (hop : o.op = Op.makeSlice 56 l c)
    (L : Int) (n : Nat) (hl : a.eval l = .int .i64 L) (hc : a.eval c = .int .i64 L) (hL : L = (n : Int)) (hm : n ≤ 4096)
    (hK : ∀ w', w' = w.alloc (.cells (madeCells (secV z64).cells (n * 64)) 93) → wpList Try.prog ops Q rest (a.put o.dst (.slice (some ⟨w.heap.size, 0, none⟩) n n)) w') :
    wpList Try.prog ops Q (o :: rest) a w := by
  refine wpList_plain hgd fun K hK' => ?_
  subst hL
  obtain ⟨i0, hi, hz0, hz1, hz2⟩ := info_parts infoSec
  have hr := run_make (P := Try.prog) w 56 93 i0 (secV z64) Try.underlying56 hi hz0 .i64 .i64 n n (by omega) (by omega) (by rw [hz2]; omega) (by omega)
  simp only [Int.toNat_natCast, hz1] at hr
  unfold Oper.wp
  simp [execOp, hop, hl, hc, hr, Result.andThen]
  exact hK' _ _ (hK _ rfl)
/-- What New answers. -/
def NewD (w : World) (n : Nat) (e : Ending) (w' : World) : Prop := ∃ b lb mb, e = .returned (.tuple #[pp b, .int .i64 0]) ∧ Dsk w' b lb mb (.new n) ∧ w.heap.size ≤ b ∧ w.heap.size ≤ lb ∧ w.heap.size ≤ mb ∧ Below w.heap.size w w'
theorem new_dsk {n : Nat} (hn : n ≤ 4096) {w W1 : World} (h1 : W1 = w.alloc (.cells (madeCells (secV z64).cells (n * 64)) 93)) {o : Obj} (ho : o = .cells #[.slice (some ⟨w.heap.size, 0, none⟩) n n, .map (some W1.heap.size), .bool false, .int .i64 0, .bool false] 59) :
    Dsk ((W1.alloc (.map #[] 0)).alloc o) (W1.heap.size + 1) w.heap.size W1.heap.size (.new n) := by
  have hs : W1.heap.size = w.heap.size + 1 := by rw [h1]; simp
  have hB : Below W1.heap.size W1 ((W1.alloc (.map #[] 0)).alloc o) := K.alloc (K.alloc (Below.refl _ _) _) _
  have hl : W1.heap[w.heap.size]? = some (.cells (madeCells (secV z64).cells (n * 64)) 93) := by rw [h1]; exact heap_alloc_new w _
  have hl2 : ((W1.alloc (.map #[] 0)).alloc o).heap[w.heap.size]? = some (.cells (madeCells (secV z64).cells (n * 64)) 93) := (hB.block _ (by omega)).trans hl
  have hb2 : ((W1.alloc (.map #[] 0)).alloc o).heap[W1.heap.size + 1]? = some o := by
    have := heap_alloc_new (W1.alloc (.map #[] 0)) o
    simpa using this
  have hm : ((W1.alloc (.map #[] 0)).alloc o).ownsMap (H := Unit) Try.prog 3 secR W1.heap.size 0 (.map []) := (World.ownsMap_made W1 Try.prog 3 secR).alloc o
  have cl : ∀ j, j < n * 64 → ((W1.alloc (.map #[] 0)).alloc o).cell? ⟨w.heap.size, j, none⟩ = some (.int .u8 0) := fun j hj => by
    unfold World.cell?
    simp only [hl2]
    exact made_at _ _ hj
  have fl : ∀ j, ((W1.alloc (.map #[] 0)).alloc o).frozen? ⟨w.heap.size, j, none⟩ = false := fun j => by
    unfold World.frozen?
    simp [hl2]
  subst ho
  refine ⟨?_, ?_, ?_, ?_, ?_, ?_, by simp, by simp; omega, fun i hi j v hv => ?_, fun j hj => ?_, ⟨.map [], hm, MpD.nil n⟩, by omega, by omega, by omega, DM.new_ok hn⟩
  · unfold World.cell?
    simp only [hb2]
    rfl
  · unfold World.cell?
    simp only [hb2]
    rfl
  · unfold World.cell?
    simp only [hb2]
    rfl
  · unfold World.cell?
    simp only [hb2]
    rfl
  · unfold World.cell?
    simp only [hb2]
    rfl
  · intro i _
    unfold World.frozen?
    simp only [hb2]
    simp
  · have hj : j < 64 := by
      have := (List.getElem?_eq_some_iff.1 hv).1
      rw [cells8_len] at this
      exact this
    have hi' : i < n := hi
    rw [cl _ (by omega)]
    have : (cells8 z64)[j]? = some v := hv
    rw [cells8_at _ _ (by exact hj)] at this
    have e : z64.getD j 0 = 0 := by rw [z64, List.getD_eq_getElem?_getD, List.getElem?_replicate, if_pos hj]; rfl
    rw [e] at this
    exact this
  · have hj' : j < n * 64 := hj
    rw [Nat.zero_add, cl j hj', fl j]
    exact ⟨rfl, rfl⟩
set_option maxHeartbeats 4000000 in
theorem new_any {n : Nat} (h : n ≤ 4096) (w : World) : Calls Try.prog 6 #[.int .i64 (n : Int)] w (NewD w n) := by
  have HN := hide h
  have h0 : decide ((n : Int) < 0) = false := decide_eq_false (by omega)
  have h1 : decide ((4096 : Int) < (n : Int)) = false := decide_eq_false (by omega)
  have h2 : ¬ (4096 : Int) < (n : Int) := by omega
  have hmm := @run_makeMap Try.prog
  clear h
  go_enter Try.func6, Try.ntmps6
  go_wp2_with (first | (refine wpList_make_secs _ rfl _ _ rfl _ n (by rfl) (by rfl) rfl HN.out ?_; intro W1 hW1; replace hW1 := hide hW1))
  have hs : W1.heap.size = w.heap.size + 1 := by rw [hW1.out]; simp
  have hD := new_dsk HN.out hW1.out rfl
  have hB : Below w.heap.size w W1 := by rw [hW1.out]; exact K.alloc (Below.refl _ _) _
  exact bodyPost_ret (by simp [results, Try.results6]) rfl ⟨W1.heap.size + 1, w.heap.size, W1.heap.size, rfl, hD, by omega, Nat.le_refl _, by omega, K.alloc (K.alloc hB _) _⟩
end Go.Proofs.Ytpophfeommlajaa
