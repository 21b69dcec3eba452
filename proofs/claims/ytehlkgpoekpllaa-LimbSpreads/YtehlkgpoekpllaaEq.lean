/- Two arrays of four words are compared word by word; so are two of eight. -/
import Derived.Test.YtehlkgpoekpllaaAddSub
import Derived.ChangeKeysEq
namespace Go.Proofs.Ytehlkgpoekpllaa
open Go.RowKit

theorem items_nil (xs ys : Array Value) (w : World) : (Op.eqItems 9999 22 1 xs ys []).run Try.prog w = .ok true w := rfl
theorem items_cons (xs ys : Array Value) (j : Nat) (js : List Nat) (x y : Int) (r : Bool) (hx : xs[j]? = some (.int .u64 x)) (hy : ys[j]? = some (.int .u64 y)) (w : World)
    (h : (Op.eqItems 9999 22 1 xs ys js).run Try.prog w = .ok r w) : (Op.eqItems 9999 22 1 xs ys (j :: js)).run Try.prog w = .ok (x == y && r) w := by
  have he : Try.prog.plainKey 22 = true := by kernel_rfl
  simp only [Op.eqItems, Sem.run_bind, Nat.mul_one, run_part_plain w he hx, run_part_plain w he hy, Result.andThen_ok, run_equalIn_int w 9998 22 .u64 .u64 x y Try.underlying22]
  cases x == y <;> simp [h]

theorem eq4 (x0 x1 x2 x3 y0 y1 y2 y3 : Int) (w : World) :
    (Op.equalIn 10000 24 (.agg #[.int .u64 x0, .int .u64 x1, .int .u64 x2, .int .u64 x3]) (.agg #[.int .u64 y0, .int .u64 y1, .int .u64 y2, .int .u64 y3])).run Try.prog w = .ok (x0 == y0 && (x1 == y1 && (x2 == y2 && (x3 == y3 && true)))) w := by
  obtain ⟨i, hi⟩ := Option.isSome_iff_exists.1 (show (Try.prog.info? 22).isSome = true by kernel_rfl)
  rw [run_equalIn_array w 9999 _ _ Try.underlying24 hi]
  have hc : Try.prog.cellsOf 22 = 1 := by kernel_rfl
  have r4 : List.range 4 = [0, 1, 2, 3] := rfl
  rw [hc, r4]
  exact items_cons _ _ 0 _ _ _ _ rfl rfl w (items_cons _ _ 1 _ _ _ _ rfl rfl w (items_cons _ _ 2 _ _ _ _ rfl rfl w (items_cons _ _ 3 _ _ _ _ rfl rfl w (items_nil _ _ w))))
end Go.Proofs.Ytehlkgpoekpllaa
