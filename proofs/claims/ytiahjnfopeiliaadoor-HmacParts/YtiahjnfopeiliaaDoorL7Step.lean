/- Two hashes are compared, at a step of a region that draws its order. -/
import Derived.Test.YtiahjnfopeiliaaDoorL7Awake
namespace Go.Proofs.YtiahjnfopeiliaaDoor
open Go.RowKit

theorem wp_eqH {op : Oper} {a : Act} {w : World} {Kt : Act → World → Prop} {Q : Exit → Act → World → Prop} {x y : Operand} {t : TypeId} {V U : Array Value} {r : Bool} (ho : op.op = .binOp .eql 25 x y t)
    (hx : a.eval x = .agg V) (hy : a.eval y = .agg U) (q : (Op.equalIn 10000 25 (.agg V) (.agg U)).run Tryd.prog w = .ok r w) (h : Kt (a.put op.dst (.bool r)) w) : Oper.wp Tryd.prog op a w Kt Q := by
  obtain ⟨h1, h2⟩ := runEq V U x y r w q
  unfold Oper.wp execOp
  simp only [ho, hx, hy, Sem.run_bind, Sem.run_pure, Result.andThen_ok, h1, h2]
  exact h
theorem wp_hashZ {op : Oper} {a : Act} {w : World} {Kt : Act → World → Prop} {Q : Exit → Act → World → Prop} (ho : op.op = .build 25 #[]) (h : Kt (a.put op.dst (.agg (ab (fun _ => 0) 32).toArray)) w) : Oper.wp Tryd.prog op a w Kt Q := by
  have e : (Tryd.prog.built 25 []).getD #[] = (ab (fun _ => 0) 32).toArray := by kernel_rfl
  refine wp_build 25 #[] ho (by kernel_rfl) ?_
  simp only [List.map_toArray, List.map_nil, e]
  exact h
/-- A key of more than 64 bytes does what its hash does. -/
theorem mac_long {f g : Nat → Nat} {n m : Nat} (hn : 64 < n) : macS (hByte (hashS f n)) 32 g m = macS f n g m := by
  have e : kpad (hByte (hashS f n)) 32 = kpad f n := by
    funext i
    unfold kpad
    rw [if_pos (show 32 ≤ 64 by omega), if_neg (show ¬ n ≤ 64 by omega)]
  unfold macS
  rw [e]
end Go.Proofs.YtiahjnfopeiliaaDoor
