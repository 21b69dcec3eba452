/- Layer 13: what a program that does nothing does not answer; the law of no disk. -/
import Derived.Test.YtpophfeommlajaaMP20
namespace Go.Proofs.Ytpophfeommlajaa
set_option maxRecDepth 100000
open Go.RowKit Go.Maps
attribute [local go_sem ↓] Go.wp_at_zero Go.wp_at_succ

/-- Sixty-four noughts that are made. -/
def o64 : Obj := .cells (madeCells #[.int .u8 0] 64) 5
theorem run_mk64 (w : World) : (Instr.makeSlice 38 (.int .i64 64) (.int .i64 64)).run Try.prog w = .ok (.slice (some ⟨w.heap.size, 0, none⟩) 64 64) (w.alloc o64) := by
  obtain ⟨i0, hi, hz0, hz1, hz2⟩ := info_parts info8
  have hr := run_make (P := Try.prog) w 38 5 i0 (.int .u8 0) Try.underlying38 hi hz0 .i64 .i64 64 64 (by omega) (by omega) (by rw [hz2]; omega) (by omega)
  rw [hz1] at hr
  exact hr
theorem ba64 (w : World) : BA (w.alloc o64) (some ⟨w.heap.size, 0, none⟩) 64 (fun _ => 0) := by
  refine ⟨fun _ => by omega, Or.inr ⟨w.heap.size, 0, rfl, ⟨fun i hi => ?_⟩⟩⟩
  have hh : (w.alloc o64).heap[w.heap.size]? = some o64 := heap_alloc_new w _
  have hm : (madeCells #[.int .u8 0] 64)[i]? = some (.int .u8 0) := by simp [madeCells, hi, Nat.mod_one]
  unfold World.cell?
  simp only [hh, Nat.zero_add]
  exact hm
def OkT (w : World) (e : Ending) (w' : World) : Prop := e = .returned (.bool true) ∧ Below w.heap.size w w'
end Go.Proofs.Ytpophfeommlajaa
