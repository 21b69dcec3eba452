/- Things: parts of a row of bytes. -/
import Derived.Test.YtlpjdhoboebbfaaDoorVQ3
namespace Go.Proofs.YtlpjdhoboebbfaaDoor
open Go.RowKit

/-- A slice from its k-th element on. -/
def tailV (k : Nat) : Value → Value
  | .slice a n c => .slice (cutA a c k) (n - k) (c - k)
  | v => v
section
variable {W : Bs} {n : Nat} {ops : Array Oper} {i : Nat} {o : Oper} {L : Nat → Bool} {xs : List OE} {σ : SS}
theorem u_tailQ (u : Up ops i o L) (hg : Gd ops n o (run L 0 xs σ)) (dd : Nat) (hdd : o.dst = some dd) (x l : Operand) (ho : o.op = .slice 22 x (some l) none none) {y : Nat} (hx : lookO n ops i o xs σ x = some (.unk y id)) {m : Nat} {cs : List Value} (hq : lookQ (deps o) i 0 ops.toList xs y (some (σ.q y)) = some (some (rowPd 5 1 m cs))) (k : Nat) (hl : lookO n ops i o xs σ l = some (.val (.int .i64 (k : Int)))) (hk : k ≤ m) : GStep Tryd.prog W n ops o (run L 0 xs σ) ((eS dd (.unk y (tailV k))).app (run L 0 xs σ)) := by
  refine u_anyQ u hg dd hdd y hq _ fun β a w hr hp => ?_
  have ex : a.eval x = (β y).v := hr.eval (u.ev hx)
  have el : a.eval l = .int .i64 (k : Int) := hr.eval (u.ev hl)
  obtain ⟨z, c, hv, _⟩ := own_max hp.1
  unfold execOp
  simp only [ho, Option.map, ex, el, hv, Sem.run_bind, Sem.run_pure, Result.andThen_ok, run_fromS hk w]
  rfl
end
/-- Three answers. -/
theorem ret_three {P : Program} {W : Bs} {n : Nat} {σ : SS} {a : Act} {w : World} {fn : Func} {R : Ending → World → Prop} (h : Rp W n σ a w) (r1 r2 r3 : ResultVar) (hres : fn.results = #[r1, r2, r3]) {v1 v2 v3 : Value} (h1 : Ans P n σ r1 v1) (h2 : Ans P n σ r2 v2) (h3 : Ans P n σ r3 v3) (hR : R (.returned (.tuple [v1, v2, v3].toArray)) w) (hD : W.D = [] := by first | rfl | assumption) : bodyPost P fn R .ret a w := by
  obtain ⟨β, hp⟩ := h
  refine ⟨hp.df.trans hD, _, ?_, hR⟩
  have e1 := h1 W β a w hp
  have e2 := h2 W β a w hp
  have e3 := h3 W β a w hp
  cases r1 <;> cases r2 <;> cases r3 <;> simp only at e1 e2 e3 <;> (try obtain ⟨p1, f1, g1⟩ := e1) <;> (try obtain ⟨p2, f2, g2⟩ := e2) <;> (try obtain ⟨p3, f3, g3⟩ := e3) <;> simp [results, asAddr, *]
/-- The bytes of a row's part. -/
theorem row_tail {w : World} {v : Value} {F : Nat → Bool} {n : Nat} {l : List Nat} (h : (rowPd 5 1 n (cells8 l)).p v F w) (hl : ∀ x ∈ l, x < 256) (k : Nat) (hk : k ≤ n) : ∃ z c, tailV k v = .slice z (n - k) c ∧ BA w z (n - k) (fun i => l.getD (k + i) 0) := by
  obtain ⟨z, c, rfl, h1, _, hb⟩ := row_ba h hl
  exact ⟨_, _, rfl, hb.cut c k (n - k) (by omega) h1⟩
end Go.Proofs.YtlpjdhoboebbfaaDoor
