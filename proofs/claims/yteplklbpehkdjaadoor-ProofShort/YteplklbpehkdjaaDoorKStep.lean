/- A call of a function of the program, as a step of a region that draws its order. -/
import Derived.Test.YteplklbpehkdjaaDoorKBase
namespace Go.Proofs.YteplklbpehkdjaaDoor
set_option maxRecDepth 100000
open Go.RowKit

theorem wanted_pos {c : Bool} {A B : Prop} (h : c = true) (a : A) : if c = true then A else B := by rw [if_pos h]; exact a
theorem wp_call {F : Nat} {op : Oper} {a : Act} {w : World} {Kt : Act → World → Prop} {Q : Exit → Act → World → Prop} {xs : Array Operand} {ts : Array TypeId} {vs : Array Value} {R : Value → World → Prop} (ho : op.op = .call { callee := .value (.func F), args := xs, argTypes := ts }) (hx : xs.map a.eval = vs) (hE : (callFunc F vs).run Tryd.prog w = .ok (.enter F vs) w)
    (hC : Calls Tryd.prog F vs w fun e w' => ∃ r, e = .returned r ∧ R r w') (h : ∀ r w', R r w' → Kt (a.put op.dst r) w') : Oper.wp Tryd.prog op a w Kt Q := by
  have hf : a.eval (.func F) = .func (.func F) #[] #[] := rfl
  unfold Oper.wp execOp
  simp only [ho, resolve, invoke, hf, Deferred.ofValue, hx, Sem.run_bind, Sem.run_pure, Result.andThen_ok]
  rw [show (#[] ++ vs ++ #[] : Array Value) = vs by simp, hE, Oper.upon_enter]
  refine Calls.mono hC ?_
  rintro e w' ⟨r, rfl, hr⟩
  exact h r w' hr
end Go.Proofs.YteplklbpehkdjaaDoor
