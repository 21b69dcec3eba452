/- Layer 13: what a program that does nothing does not answer; the law of no disk. -/
import Derived.Test.YtmifmgnlfjahmaaD13D
namespace Go.Proofs.Ytmifmgnlfjahmaa
open Go.RowKit Go.Maps
attribute [local go_sem ↓] Go.wp_at_zero Go.wp_at_succ

theorem awake_any (w : World) : Calls Try.prog 8 #[] w fun e w' => e = .returned (.bool true) ∧ Below w.heap.size w w' := by
  go_enter Try.func8, Try.ntmps8
  go_wp2_with (first
    | (go_at_call 10; refine Calls.mono (new_any (n := 2) (by omega) _) ?_; rintro e W1 ⟨b, lb, mb, rfl, hD, h1, h2, h3, hB⟩; replace hD := hide hD; replace hB := hide hB)
    | (go_at_call 12; refine Calls.mono (size_any hD.out) ?_; rintro e W2 ⟨rfl, rfl⟩))
  go_ret
  exact ⟨rfl, hB.out⟩
/-- Sixty-four noughts that are made. -/
def o64 : Obj := .cells (madeCells #[.int .u8 0] 64) 5
theorem run_mk64 (w : World) : (Instr.makeSlice 33 (.int .i64 64) (.int .i64 64)).run Try.prog w = .ok (.slice (some ⟨w.heap.size, 0, none⟩) 64 64) (w.alloc o64) := by
  obtain ⟨i0, hi, hz0, hz1, hz2⟩ := info_parts info8
  have hr := run_make (P := Try.prog) w 33 5 i0 (.int .u8 0) Try.underlying33 hi hz0 .i64 .i64 64 64 (by omega) (by omega) (by rw [hz2]; omega) (by omega)
  rw [hz1] at hr
  exact hr
theorem ba64 (w : World) : BA (w.alloc o64) (some ⟨w.heap.size, 0, none⟩) 64 (fun _ => 0) := by
  refine ⟨fun _ => by omega, Or.inr ⟨w.heap.size, 0, rfl, ⟨fun i hi => ?_⟩⟩⟩
  have hh : (w.alloc o64).heap[w.heap.size]? = some o64 := heap_alloc_new w _
  have hm : (madeCells #[.int .u8 0] 64)[i]? = some (.int .u8 0) := by simp [madeCells, hi, Nat.mod_one]
  unfold World.cell?
  simp only [hh, Nat.zero_add]
  exact hm
theorem read_nilE (w : World) (i : Int) : Calls Try.prog 18 #[.pointer none, .int .i64 i] w fun e w' => e = .returned (.tuple #[.slice none 0 0, .int .i64 6]) ∧ w' = w := by
  go_enter Try.func18, Try.ntmps18
  go_wp2_with (go_at_call 14; refine Calls.mono (down_nil _) ?_; rintro e w' ⟨rfl, rfl⟩)
  exact bodyPost_ret (by simp [results, Try.results18]) rfl ⟨rfl, rfl⟩
def OkT (w : World) (e : Ending) (w' : World) : Prop := e = .returned (.bool true) ∧ Below w.heap.size w w'
set_option maxRecDepth 100000 in
set_option maxHeartbeats 8000000 in
theorem diskNil_any (n i : Int) (x : Value) (t at_ : Int) (w : World) : Calls Try.prog 6 #[.int .i64 n, .int .i64 i, .agg #[x, .int .i64 t, .int .i64 at_]] w (OkT w) := by
  have hmk := run_mk64
  go_enter Try.func6, Try.ntmps6
  go_upto_region 7 with (first
    | (go_at_call 20; refine Calls.mono (fuse_nil _ _) ?_; rintro e W1 ⟨⟨vf, rfl⟩, rfl⟩)
    | (go_at_call 17; refine Calls.mono (crash_nil _ _ _ _) ?_; rintro e W2 ⟨⟨vc, rfl⟩, hB2⟩)
    | (go_at_call 18; refine Calls.mono (read_nilE _ _) ?_; rintro e W3 ⟨rfl, rfl⟩)
    | (go_at_call 8; refine Calls.mono (awake_any _) ?_; rintro e W4 ⟨rfl, hB4⟩)
    | (go_at_call 12; refine Calls.mono (size_nil _) ?_; rintro e W5 ⟨rfl, rfl⟩)
    | (go_at_call 14; refine Calls.mono (down_nil _) ?_; rintro e W6 ⟨rfl, rfl⟩)
    | (go_at_call 15; refine Calls.mono (write_nil _ _ _) ?_; rintro e W7 ⟨rfl, rfl⟩)
    | (go_at_call 16; refine Calls.mono (sync_nil _) ?_; rintro e W8 ⟨rfl, rfl⟩))
  have HB := hide (K.alloc (K.call (K.call (K.alloc (Below.refl _ w) _) hB2) hB4) o64)
  clear hB2 hB4 hmk
  refine wp_let (fun X hX => ?_)
  rw [← hX] at HB
  clear hX
  by_cases h0 : 0 ≤ n
  · by_cases h1 : n ≤ 4096
    · go_wp2_with fail
      go_ret
      exact ⟨rfl, HB.out⟩
    · have hd : decide (n ≤ 4096) = false := decide_eq_false h1
      have hn : n < 0 ∨ 4096 < n := by omega
      go_wp2_with (go_at_call 10; refine Calls.mono (new_not hn _) ?_; rintro e W9 ⟨rfl, rfl⟩)
      go_ret
      exact ⟨rfl, HB.out⟩
  · have hd : decide (0 ≤ n) = false := decide_eq_false h0
    have hn : n < 0 ∨ 4096 < n := by omega
    go_wp2_with (go_at_call 10; refine Calls.mono (new_not hn _) ?_; rintro e W9 ⟨rfl, rfl⟩)
    go_ret
    exact ⟨rfl, HB.out⟩
end Go.Proofs.Ytmifmgnlfjahmaa
