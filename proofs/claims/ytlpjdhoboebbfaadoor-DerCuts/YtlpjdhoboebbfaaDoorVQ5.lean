/- Things: elements of a row of bytes, its first ones; remainders. -/
import Derived.Test.YtlpjdhoboebbfaaDoorVQ4
namespace Go.Proofs.YtlpjdhoboebbfaaDoor
open Go.RowKit

/-- The address of a slice's k-th element; its first k. -/
def elemV (k : Nat) : Value → Value
  | .slice (some ⟨b, o, none⟩) _ _ => .pointer (some ⟨b, o + k, none⟩)
  | v => v
def headV (k : Nat) : Value → Value
  | .slice a _ c => .slice (cutA a c 0) k c
  | v => v
section
variable {W : Bs} {n : Nat} {ops : Array Oper} {i : Nat} {o : Oper} {L : Nat → Bool} {xs : List OE} {σ : SS}
theorem u_headQ (u : Up ops i o L) (hg : Gd ops n o (run L 0 xs σ)) (dd : Nat) (hdd : o.dst = some dd) (x l : Operand) (ho : o.op = .slice 22 x none (some l) none) {y : Nat} (hx : lookO n ops i o xs σ x = some (.unk y id)) {m : Nat} {cs : List Value} (hq : lookQ (deps o) i 0 ops.toList xs y (some (σ.q y)) = some (some (rowPd 5 1 m cs))) (k : Nat) (hl : lookO n ops i o xs σ l = some (.val (.int .i64 (k : Int)))) (hk : k ≤ m) : GStep Tryd.prog W n ops o (run L 0 xs σ) ((eS dd (.unk y (headV k))).app (run L 0 xs σ)) := by
  refine u_anyQ u hg dd hdd y hq _ fun β a w hr hp => ?_
  have ex : a.eval x = (β y).v := hr.eval (u.ev hx)
  have el : a.eval l = .int .i64 (k : Int) := hr.eval (u.ev hl)
  obtain ⟨z, c, hv, hmc, _⟩ := own_max hp.1
  unfold execOp
  simp only [ho, Option.map, ex, el, hv, Sem.run_bind, Sem.run_pure, Result.andThen_ok, run_toS (show k ≤ c by omega) w]
  rfl
theorem u_atQ (u : Up ops i o L) (hg : Gd ops n o (run L 0 xs σ)) (dd : Nat) (hdd : o.dst = some dd) (x ix : Operand) (ho : o.op = .indexAddr 22 x ix) {y : Nat} (hx : lookO n ops i o xs σ x = some (.unk y id)) {m : Nat} {cs : List Value} (hq : lookQ (deps o) i 0 ops.toList xs y (some (σ.q y)) = some (some (rowPd 5 1 m cs))) (k : Nat) {kd : IntKind} (hl : lookO n ops i o xs σ ix = some (.val (.int kd (k : Int)))) (hk : k < m) : GStep Tryd.prog W n ops o (run L 0 xs σ) ((eS dd (.unk y (elemV k))).app (run L 0 xs σ)) := by
  refine u_anyQ u hg dd hdd y hq _ fun β a w hr hp => ?_
  have ex : a.eval x = (β y).v := hr.eval (u.ev hx)
  have el : a.eval ix = .int kd (k : Int) := hr.eval (u.ev hl)
  rcases hp.1.2 with ⟨_, h0⟩ | ⟨g, cap, cur, hv, _⟩
  · omega
  obtain ⟨t, hi, _, hz1, _⟩ := info_parts info8
  unfold execOp
  simp [ho, ex, el, hv, elemV, Instr.indexAt, asIntOf, run_underlying Tryd.underlying22, sizeOf, typeInfo, hi, hz1, Addr.add_mid, hk]
theorem u_loadQ (u : Up ops i o L) (hg : Gd ops n o (run L 0 xs σ)) (dd : Nat) (hdd : o.dst = some dd) (x : Operand) (ho : o.op = .load 5 x) {y k : Nat} (hx : lookO n ops i o xs σ x = some (.unk y (elemV k))) {m : Nat} {cs : List Value} (hq : lookQ (deps o) i 0 ops.toList xs y (some (σ.q y)) = some (some (rowPd 5 1 m cs))) (hk : k < m) (v : Value) (hv : cs[k]? = some v) : GStep Tryd.prog W n ops o (run L 0 xs σ) ((eS dd (.val v)).app (run L 0 xs σ)) := by
  refine u_valQ u hg dd hdd y hq _ fun β a w hr hp => ?_
  have ex : a.eval x = elemV k (β y).v := hr.eval (u.ev hx)
  have hp1 := hp.1
  rcases hp.1.2 with ⟨_, h0⟩ | ⟨g, cap, cur, hv2, _⟩
  · omega
  rw [hv2] at hp1
  have hc : w.cell? ⟨g, 0 + k, none⟩ = some v := by
    rw [Nat.zero_add, hp1.cellAt k (by omega)]
    exact hv
  have hagg : (isAgg 5).run Tryd.prog w = .ok false w := by
    unfold isAgg
    rw [Sem.run_bind, run_underlying Tryd.underlying5 w]
    rfl
  unfold execOp
  simp only [ho, ex, hv2, elemV]
  rw [Nat.zero_add] at hc ⊢
  simp [Instr.loadAt, Instr.sureAddr, loadVar, hagg, hc]
end
theorem row_head {w : World} {v : Value} {F : Nat → Bool} {n : Nat} {l : List Nat} (h : (rowPd 5 1 n (cells8 l)).p v F w) (hl : ∀ x ∈ l, x < 256) (k : Nat) (hk : k ≤ n) : ∃ z c, headV k v = .slice z k c ∧ k ≤ c ∧ BA w z k (fun i => l.getD i 0) := by
  obtain ⟨z, c, rfl, h1, _, hb⟩ := row_ba h hl
  refine ⟨_, _, rfl, by omega, ?_⟩
  have := hb.cut c 0 k (by omega) h1
  simpa using this
theorem i_remN {P : Program} (ty : TypeId) (a b c : Nat) (hb : b ≠ 0) (hc : c = a % b) (w : World) : (binOp .rem ty (.int .i64 (a : Int)) (.int .i64 (b : Int))).run P w = .ok (.int .i64 (c : Int)) w := by
  have e : (a : Int).tmod (b : Int) = (c : Int) := by
    rw [Int.tmod_eq_emod_of_nonneg (by omega), ← Int.natCast_emod, ← hc]
  simp [binOp, Op.intDiv, hb, e]
theorem t_eqB {P : Program} (ty : TypeId) (hu : P.underlying ty = some .bool) (a b t : Bool) (ht : (a == b) = t) (w : World) : (binOp .eql ty (.bool a) (.bool b)).run P w = .ok (.bool t) w := by
  have h : (Op.equalIn 10000 ty (.bool a) (.bool b)).run P w = .ok (a == b) w := run_equalIn_bool' (P := P) w 9999 ty a b hu
  simp only [binOp, Op.equal, show Op.maxDepth = 10000 from rfl, Sem.run_bind, h, Result.andThen_ok, Sem.run_pure]
  rw [← ht]
end Go.Proofs.YtlpjdhoboebbfaaDoor
