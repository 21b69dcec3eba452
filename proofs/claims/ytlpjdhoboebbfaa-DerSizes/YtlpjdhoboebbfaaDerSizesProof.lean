/- DerSizes: a pair's bytes tell their own number, and that of each number's. -/
import Derived.Test.YtlpjdhoboebbfaaL10S
import Derived.Test.YtlpjdhoboebbfaaR10
namespace Go.Proofs.Ytlpjdhoboebbfaa
open Go.ChangeShapes Go.WideShapes Go.ChangeAt Go.RowKit

set_option maxHeartbeats 400000 in
set_option maxRecDepth 100000 in
theorem derSizes_lifted (os : Os) (started : os.Started) (H : Type) (enc : TypeId × Value → H) :
    ReturnsInHanded {} Try.checked os 4 .any (Rows.derSizesSpec.pre6 enc Try.prog Try.f4 Rows.derSizesRow.domain false) (Rows.derSizesSpec.post enc Try.prog Try.f4 false true false false) := by
  refine returnsInHanded_of_change (C := Try.checked) own started (by kernel_rfl) Try.func4
    (ChangeSpec.witness6 (enc := enc) (C := Try.checked) false ⟨#[], #[.agg #[.int .u64 0, .int .u64 0, .int .u64 0, .int .u64 0], .agg #[.int .u64 0, .int .u64 0, .int .u64 0, .int .u64 0]], []⟩ 8 (by kernel_rfl) (by kernel_rfl) (by kernel_rfl) (by kernel_rfl)) ?_
  intro W base args ds gs before hval0 hW _ _
  have hval : ∀ (j : Nat) t v, Try.f4.params[j]? = some t → args[j]? = some v → Value.okWide Try.prog W .any base t v := hval0
  have hW' := hW
  obtain ⟨p, q, hA0, hV, rfl, _, _⟩ := hW
  have hA : DataW.TrodAll enc Try.prog W 0 (fun _ => true) true Try.f4.params.toList args.toList ds p := hA0
  rw [Try.params4] at hA hval
  obtain ⟨v0, v1, d0, d1, p0, p1, rfl, rfl, rfl, h0, h1⟩ := trodAll_two hA
  obtain ⟨rfl, rfl⟩ := trodVars_none hV
  obtain ⟨a0, w0, rfl, rfl, rfl⟩ := open_nat (hval 0 24 v0 rfl rfl) h0
  obtain ⟨A0, rfl, q0⟩ := natOf w0
  obtain ⟨a1, w1, rfl, rfl, rfl⟩ := open_nat (hval 1 24 v1 rfl rfl) h1
  obtain ⟨A1, rfl, q1⟩ := natOf w1
  clear hA0 hval0
  simp only [List.append_nil] at hW'
  refine (derSizes_walk q0 q1).mono fun e W' ⟨he, hb⟩ => ?_
  subst he
  exact ⟨_, rfl, _, _, _, [], _, [], hW', trodAll_mk1 (shut_bool Try.underlying4 _), trodAll_mk2 (shut_nat W' _ (A0 : Int)) (shut_nat W' _ (A1 : Int)), rfl, hb.frame _, fun h => by cases h⟩

theorem derSizes_holds : Rows.DerSizesSaid :=
  OpenClaim.holds_of_wide 4 Try.f4 rfl rfl rfl rfl rfl rfl rfl ⟨rfl, rfl, rfl, rfl, rfl⟩ rfl rfl rfl rfl rfl (by kernel_rfl) Try.func4 (by kernel_rfl)
    (of_decide_eq_true (by kernel_rfl)) (by unfold Func.isWrapper; rw [if_neg (by decide +kernel)]; exact ⟨rfl, rfl⟩)
    (fun os started H enc _ => derSizes_lifted os started H enc)
#print axioms derSizes_holds
end Go.Proofs.Ytlpjdhoboebbfaa
