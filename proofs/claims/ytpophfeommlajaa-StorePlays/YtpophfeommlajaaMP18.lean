/- Layer 13: the places of what was written, sorted, by the library's own slices.Sorted and maps.Keys. -/
import Derived.Test.YtpophfeommlajaaMP01
import Derived.Test.YtpophfeommlajaaMP17
namespace Go.Proofs.Ytpophfeommlajaa
set_option maxRecDepth 100000
open Go.RowKit Go.Maps Go.Sort Go.Shelf

theorem sortsA (m : Nat) : AnyZI.SortsIn Try.prog sortedA_ren Fence.wide m :=
  ⟨fun blk off cap ss W hH hblk hsz => callsIn_wide.2 (AnyM.slices_Sort_int sortA blk off cap ss W hH hblk hsz),
   fun p cap W => callsIn_wide.2 (AnyM.slices_Sort_int_none sortA p cap W)⟩
theorem keys_call (mb : Option Nat) (w : World) : Calls Try.prog 51 #[.map mb] w fun e w' => e = .returned (.func (.func 72) #[] #[.pointer (some ⟨w.heap.size, 0, none⟩)]) ∧ w' = w.alloc (.cells #[.map mb] 57) :=
  callsIn_wide.1 (AnyZI.keys_in keysA Fence.wide 5 trivial rfl mb w)
/-- What slices.Sorted answers. -/
def SoP (w : World) (l : List Nat) (e : Ending) (w' : World) : Prop := ∃ v, e = .returned v ∧ w'.ownsRow w.heap.size 3 1 v l.length (l.map fun (i : Nat) => .int .i64 (i : Int)) ∧ Below w.heap.size w w'
set_option maxHeartbeats 1000000 in
theorem sorted_call {w : World} {mb : Nat} {D : DM} (h : Mp w mb D) (hn : D.n ≤ 4096) :
    Calls Try.prog 50 #[.func (.func 72) #[] #[.pointer (some ⟨w.heap.size, 0, none⟩)]] (w.alloc (.cells #[.map (some mb)] 57)) (SoP (w.alloc (.cells #[.map (some mb)] 57)) (wrs D.n D.nw)) := by
  obtain ⟨E, hown, hE⟩ := h
  have hC := hown.canon keyed3
  have hsz := hE.size hC
  have hbl := hown.lt
  have hseq : SeqGives Fence.wide 2 Try.prog 72 #[.pointer (some ⟨w.heap.size, 0, none⟩)] encZ (fun ss => ss.Perm (intKeys E)) (Maps.size E) (w.alloc (.cells #[.map (some mb)] 57)) :=
    AnyZI.keys_gives (ρ := keysA_ren) { keysA with } Fence.wide _ trivial rfl (by omega) w.heap.size mb (Maps.size E) E _ (by simp) (by simp) (by
      obtain ⟨es, clock, hb, Ft, hs, hD⟩ := hown
      exact ⟨es, clock, (Below.heap_alloc _ _ mb hbl).trans hb, Ft, hs, hD⟩)
  have cS := AnyZI.sorted_in sortedA Fence.wide 5 trivial trivial trivial trivial rfl (by omega) (sortsA _) (enters_of Try.func71 (by kernel_rfl) rfl) 72 #[.pointer (some ⟨w.heap.size, 0, none⟩)] trivial (enters_of Try.func72 (by kernel_rfl) rfl) _ _ (by unfold maxLen; omega) (by omega) _ hseq
  change CallsIn _ _ Try.prog 50 _ _ _ at cS
  refine callsIn_wide.1 (cS.mono ?_)
  rintro e w' ⟨v, ss, rfl, hS, hrow, _, hb⟩
  have hk := hE.keys hC hS
  rw [hk] at hrow
  have hl : ss.length = (wrs D.n D.nw).length := by
    have := congrArg List.length hk
    rwa [List.length_mergeSort, List.length_map] at this
  rw [hl, List.map_map] at hrow
  exact ⟨v, rfl, hrow, hb⟩
end Go.Proofs.Ytpophfeommlajaa
