/- How the variable that layer 10's readers panic with is read before the call. -/
import Derived.Test.YtlpjdhoboebbfaaDoorP10B
import Derived.Test.YtlpjdhoboebbfaaDoorR10
import Derived.Test.YtlpjdhoboebbfaaDoorTie
import Derived.Test.YtlpjdhoboebbfaaDoorCards
import Derived.ProofKit
import Derived.LaidMore
import Derived.MakeChecks
import Derived.Stop.LaidErr
import Derived.OpenShut
import Derived.ChangeMaps5
import Derived.Stop.Joined
namespace Go.Proofs.YtlpjdhoboebbfaaDoor
open Go.ChangeShapes Go.WideShapes Go.ChangeAt Go.RowKit

theorem gErr : Tryd.prog.globalNamed "chronicle/der.errByte" = some 0 := by kernel_rfl
theorem tErr : (Tryd.prog.globals[0]?).map (·.type) = some 54 := by kernel_rfl
theorem cellsSErr : Tryd.prog.cellsOf 77 = 1 := by kernel_rfl
theorem cellsStr : Tryd.prog.cellsOf 9 = 1 := by kernel_rfl
theorem star : "*" ++ "errors.errorString" = "*errors.errorString" := by decide
theorem rowErr (u : TypeId) (h : Tryd.prog.typeName? 3 u = some "*errors.errorString") : u = 60 :=
  typeName_ptr_named (nm := "errors.errorString") (by rw [star]; kernel_rfl) (by kernel_rfl) (by decide) u (by rw [star]; exact h)
def laid1 : List (String × DataW Unit) := [("chronicle/der.errByte", Rows.laid_chronicle_der_errByte)]
theorem tab_of_laid {W : World} (h : laidMetH Tryd.prog laid1 W) : Tab W := by
  rw [MakeChecks.laidMetH_plain _ _ _ (by kernel_rfl)] at h
  obtain ⟨a0, s0, hv0, -, -, -⟩ := laid_sentinel h gErr tErr Tryd.underlying54 rowErr Tryd.underlying60 Tryd.underlying77 rfl rfl Tryd.underlying9 cellsSErr cellsStr
  exact ⟨_, _, by have h0 := World.var?_cell gErr hv0 0; simpa using h0⟩
/-- The door's own heap meets the condition. -/
theorem door_met (os : Os) (args : Array Value) : laidMetH Tryd.prog laid1 ((World.doorLaid Tryd.prog 200 os).forCall (fun _ _ => 0) ⟨#[], args, []⟩).memory :=
  laidMetH_of_parts3 (fuel := 8) (laidMet_of_run' 8 (by kernel_rfl) (by kernel_rfl)) (by kernel_rfl) (by kernel_rfl)
end Go.Proofs.YtlpjdhoboebbfaaDoor
