/- The walk of LimbBits, of an argument of 8 bits as it comes in. -/
import Derived.Test.YtehlkgpoekpllaaBitsWalk
namespace Go.Proofs.Ytehlkgpoekpllaa
open Go.RowKit
theorem bits_told {a i : Int} (h : Num a) (wi : (Lit.int .u8 i).wf = true) (w : World) :
    Calls Try.prog 7 #[.agg #[.int .u64 (L 0 a), .int .u64 (L 1 a), .int .u64 (L 2 a), .int .u64 (L 3 a)], .int .u8 i] w fun e w' => e = .returned (.bool true) ∧ Below w.heap.size w w' := by
  simp [Lit.wf, IntKind.min, IntKind.max, IntKind.signed, IntKind.bits] at wi
  exact bits_walk h (by omega) (by omega) w
end Go.Proofs.Ytehlkgpoekpllaa
