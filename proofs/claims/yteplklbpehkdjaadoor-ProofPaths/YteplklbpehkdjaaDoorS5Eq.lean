/- Two hashes are compared. -/
import Derived.Test.YteplklbpehkdjaaDoorS5Sum
namespace Go.Proofs.YteplklbpehkdjaaDoor
set_option maxRecDepth 100000
open Go.RowKit

theorem itemsH (f g : Nat → Nat) (w : World) : ∀ (js : List Nat), (∀ j ∈ js, j < 32) →
    (Op.eqItems 9999 5 1 (ab f 32).toArray (ab g 32).toArray js).run Tryd.prog w = .ok (decide (∀ j ∈ js, f j = g j)) w
  | [], _ => rfl
  | j :: js, h => by
    have he : Tryd.prog.plainKey 5 = true := by kernel_rfl
    have hj := h j (by simp)
    have hx : (ab f 32).toArray[j]? = some (.int .u8 ((f j : Nat) : Int)) := by have := ab_at f hj; simpa using this
    have hy : (ab g 32).toArray[j]? = some (.int .u8 ((g j : Nat) : Int)) := by have := ab_at g hj; simpa using this
    have ih := itemsH f g w js (fun k hk => h k (by simp [hk]))
    simp only [Op.eqItems, Sem.run_bind, Nat.mul_one, run_part_plain w he hx, run_part_plain w he hy, Result.andThen_ok, run_equalIn_int w 9998 5 .u8 .u8 _ _ Tryd.underlying5]
    by_cases e : f j = g j
    · have hb : (((f j : Nat) : Int) == ((g j : Nat) : Int)) = true := by rw [e]; simp
      rw [hb]
      simp only [Bool.not_true, Bool.false_eq_true, if_false, ih]
      congr 1
      rw [Bool.eq_iff_iff, decide_eq_true_eq, decide_eq_true_eq]
      simp [e]
    · have hb : (((f j : Nat) : Int) == ((g j : Nat) : Int)) = false := beq_eq_false_iff_ne.2 (by omega)
      rw [hb]
      simp [e]
def eqB (f g : Nat → Nat) (n : Nat) : Bool := decide (∀ i, i < n → f i = g i)
/-- Two hashes are the same just if their bytes are. -/
theorem eqH (f g : Nat → Nat) (w : World) : (Op.equalIn 10000 32 (.agg (ab f 32).toArray) (.agg (ab g 32).toArray)).run Tryd.prog w = .ok (eqB f g 32) w := by
  obtain ⟨i, hi⟩ := Option.isSome_iff_exists.1 (show (Tryd.prog.info? 5).isSome = true by kernel_rfl)
  rw [run_equalIn_array w 9999 _ _ Tryd.underlying32 hi, show Tryd.prog.cellsOf 5 = 1 by kernel_rfl, itemsH f g w _ (fun j hj => List.mem_range.1 hj)]
  congr 1
  unfold eqB
  rw [Bool.eq_iff_iff, decide_eq_true_eq, decide_eq_true_eq]
  simp
theorem eqH_same (f : Nat → Nat) (w : World) : (Op.equalIn 10000 32 (.agg (ab f 32).toArray) (.agg (ab f 32).toArray)).run Tryd.prog w = .ok true w := by
  rw [eqH, show eqB f f 32 = true from decide_eq_true (fun _ _ => rfl)]
end Go.Proofs.YteplklbpehkdjaaDoor
