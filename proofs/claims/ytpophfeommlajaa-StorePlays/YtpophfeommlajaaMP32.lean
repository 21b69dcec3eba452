/- Steps of states for bytes that came in: how many, one's address, a part of them. -/
import Derived.Test.YtpophfeommlajaaMP09
import Derived.Test.YtpophfeommlajaaMP07
namespace Go.Proofs.Ytpophfeommlajaa
set_option maxRecDepth 100000
open Go.RowKit

section
variable {P : Program} {W : Bs} {n : Nat} {ops : Array Oper} {i : Nat} {o : Oper} {L : Nat → Bool} {xs : List OE} {σ : SS}
end
/-- A part of a slice of bytes. -/
def cutA (a : Option Addr) (c k : Nat) : Option Addr := if c = k then a else a.map (·.add k)
theorem run_midS {a : Option Addr} {n c k m : Nat} (hk : k ≤ m) (hc : m ≤ c) (W : World) : (Instr.sliceAt 38 (.slice a n c) (some (.int .i64 (k : Int))) (some (.int .i64 (m : Int))) none).run Try.prog W = .ok (.slice (cutA a c k) (m - k) (c - k)) W := by
  have hu : Try.prog.underlying 38 = some (.slice (Try.prog.elem 38)) := by kernel_rfl
  have he : Try.prog.elem 38 = 5 := by kernel_rfl
  have h1 : (sizeOf 5).run Try.prog W = .ok 1 W := by
    obtain ⟨i, hi⟩ := Option.isSome_iff_exists.1 (show (Try.prog.info? 5).isSome = true by kernel_rfl)
    have : (Try.prog.info? 5).map (·.size) = some 1 := by kernel_rfl
    rw [hi] at this
    simp [sizeOf, typeInfo, hi]
    simpa using this
  rw [run_sliceAt_slice W 38 _ _ _ _ hu, run_slice_lh W 38 _ n c hu .i64 .i64 (k : Int) (m : Int) (by omega) (by omega) (by omega), he, h1]
  simp only [Result.andThen_ok, sliced, Int.toNat_natCast, Nat.mul_one, cutA]
theorem run_fromS {a : Option Addr} {n c k : Nat} (hk : k ≤ n) (W : World) : (Instr.sliceAt 38 (.slice a n c) (some (.int .i64 (k : Int))) none none).run Try.prog W = .ok (.slice (cutA a c k) (n - k) (c - k)) W := by
  have hu : Try.prog.underlying 38 = some (.slice (Try.prog.elem 38)) := by kernel_rfl
  have he : Try.prog.elem 38 = 5 := by kernel_rfl
  have h1 : (sizeOf 5).run Try.prog W = .ok 1 W := by
    obtain ⟨i, hi⟩ := Option.isSome_iff_exists.1 (show (Try.prog.info? 5).isSome = true by kernel_rfl)
    have : (Try.prog.info? 5).map (·.size) = some 1 := by kernel_rfl
    rw [hi] at this
    simp [sizeOf, typeInfo, hi]
    simpa using this
  rw [run_sliceAt_slice W 38 _ _ _ _ hu, run_slice_l W 38 _ n c hu .i64 (k : Int) (by omega) (by omega), he, h1]
  simp only [Result.andThen_ok, sliced, Int.toNat_natCast, Nat.mul_one, cutA]
theorem run_toS {a : Option Addr} {n c m : Nat} (hc : m ≤ c) (W : World) : (Instr.sliceAt 38 (.slice a n c) none (some (.int .i64 (m : Int))) none).run Try.prog W = .ok (.slice (cutA a c 0) m c) W := by
  have hu : Try.prog.underlying 38 = some (.slice (Try.prog.elem 38)) := by kernel_rfl
  have he : Try.prog.elem 38 = 5 := by kernel_rfl
  have h1 : (sizeOf 5).run Try.prog W = .ok 1 W := by
    obtain ⟨i, hi⟩ := Option.isSome_iff_exists.1 (show (Try.prog.info? 5).isSome = true by kernel_rfl)
    have : (Try.prog.info? 5).map (·.size) = some 1 := by kernel_rfl
    rw [hi] at this
    simp [sizeOf, typeInfo, hi]
    simpa using this
  rw [run_sliceAt_slice W 38 _ _ _ _ hu, run_slice_h W 38 _ n c hu .i64 (m : Int) (by omega) (by omega), he, h1]
  simp only [Result.andThen_ok, sliced, Int.toNat_natCast, Nat.mul_one, cutA, Nat.sub_zero]
theorem BA.cut {w : World} {a : Option Addr} {n : Nat} {f : Nat → Nat} (h : BA w a n f) (c k m : Nat) (hk : k + m ≤ n) (hc : n ≤ c) : BA w (cutA a c k) m (fun i => f (k + i)) := by
  refine ⟨fun i => h.lt _, ?_⟩
  by_cases h0 : m = 0
  · exact Or.inl h0
  · rcases h.at_ with hn | ⟨b, o, rfl, hr⟩
    · omega
    · refine Or.inr ⟨b, o + k, ?_, hr.part k m hk⟩
      unfold cutA
      rw [if_neg (by omega), Option.map_some, Addr.add_mid]
end Go.Proofs.Ytpophfeommlajaa
