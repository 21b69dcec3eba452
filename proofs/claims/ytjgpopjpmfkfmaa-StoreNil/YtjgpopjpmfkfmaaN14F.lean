/- Layer 14: the document's Full; what the laws ask of a disk. -/
import Derived.Test.YtjgpopjpmfkfmaaN14D
namespace Go.Proofs.Ytjgpopjpmfkfmaa
set_option maxRecDepth 100000
open Go.RowKit Go.Maps
attribute [local go_sem ↓] Go.wp_at_zero Go.wp_at_succ

theorem fl_succ (f : Nat → Nat) (n : Nat) : fl f (n + 1) = fl f n ++ [f n] := by simp [fl, List.range_succ]
theorem fl_congr {f g : Nat → Nat} {n : Nat} (h : ∀ i, i < n → f i = g i) : fl f n = fl g n := by
  unfold fl
  exact List.map_congr_left (fun x hx => h x (List.mem_range.1 hx))
theorem pz_fl (f : Nat → Nat) (m : Nat) : fl (pz f m) m = fl f m := fl_congr fun _ hi => if_pos hi
theorem pz_lt {f : Nat → Nat} (h : ∀ i, f i < 256) (m i : Nat) : pz f m i < 256 := by
  unfold pz
  split
  · exact h i
  · omega
/-- Bytes with noughts behind them, in a block that was made. -/
def FuP (w : World) (f : Nat → Nat) (m : Nat) (e : Ending) (w' : World) : Prop := ∃ z c, e = .returned (.slice z 64 c) ∧ BA w' z 64 (pz f m) ∧ (∀ p, z = some p → w.heap.size ≤ p.block) ∧ Below w.heap.size w w'
structure FuR (w wr : World) (v : Value) (f : Nat → Nat) (m j : Nat) : Prop where
  k : Below w.heap.size w wr
  o : wr.ownsRow w.heap.size 5 1 v j (cells8 (fl (pz f m) j))
theorem FuR.step {w wr w1 : World} {v v' : Value} {f : Nat → Nat} {m j : Nat} (h : FuR w wr v f m j) (hj : m ≤ j) {o : Obj} (ho : w1.ownsRow w.heap.size 5 1 v' (j + 1) (cells8 (fl (pz f m) j ++ fl (fun _ => 0) 1))) (hg : (wr.alloc o).grownBy w1 v.ownBlock) : FuR w w1 v' f m (j + 1) := by
  refine ⟨below_append (K.alloc h.k o) (own_keep h.o (K.alloc (Below.refl _ _) _)) hg, ?_⟩
  rw [fl_succ]
  have e : pz f m j = 0 := if_neg (by omega)
  rw [e]
  exact ho
set_option maxRecDepth 100000 in
set_option maxHeartbeats 8000000 in
theorem full_any {w : World} {z : Option Addr} {m c : Nat} {f : Nat → Nat} (hb : BA w z m f) (hm : m ≤ 64) : Calls Try.prog 42 #[.slice z m c] w (FuP w f m) := by
  have HB := hide hb
  clear hb
  go_enter Try.func42, Try.ntmps42
  go_wp2_with (refine wpList_app (base := w.heap.size) (l := []) rfl _ _ rfl rfl (World.ownsRow_nil w _ _ _) rfl HB.out (by omega) (Nat.le_refl _) ?_; intro v1 w1 hO1 hg1; have HR := hide (FuR.mk (f := f) (m := m) (j := m) (below_append (Below.refl _ w) (World.ownsRow_nil w w.heap.size 5 1) hg1) (by rw [Nat.zero_add, List.nil_append, ← pz_fl] at hO1; exact hO1)); clear hO1 hg1)
  go_loopg [3] (64 - m) (fun g' s3 wr => ∃ j : Nat, g' = 64 - j ∧ m ≤ j ∧ j ≤ 64 ∧ FuR w wr s3 f m j)
  case atStart => exact ⟨m, rfl, Nat.le_refl _, hm, HR.out⟩
  case round =>
    clear HR
    obtain ⟨j, rfl, hj1, hj2, hR⟩ := hrel
    obtain ⟨p, cap, rfl, _, _⟩ := own_max hR.o
    have HR := hide hR
    clear hR
    by_cases hlt : j < 64
    · have hlt' : (j : Int) < 64 := by omega
      go_wp2_with (refine wpList_app (base := w.heap.size) rfl _ _ rfl rfl (own_keep HR.out.o (K.alloc (Below.refl _ _) _)) rfl (one_made wr 0 (by omega)) (by omega) (K.alloc HR.out.k _).size ?_; intro v1 w1 hO1 hg1; have HR1 := hide (HR.out.step hj1 hO1 hg1); clear hO1 hg1)
      go_roundg (64 - (j + 1))
      case measure => omega
      case rel => exact ⟨j + 1, rfl, by omega, by omega, HR1.out⟩
    · obtain rfl : j = 64 := by omega
      go_wp2_with fail
      go_ret
      refine ⟨p, cap, rfl, own_ba HR.out.o (pz_lt HB.out.lt m), fun q hq => ?_, HR.out.k⟩
      subst hq
      exact (HR.out.o.lt q.block rfl).1
end Go.Proofs.Ytjgpopjpmfkfmaa
