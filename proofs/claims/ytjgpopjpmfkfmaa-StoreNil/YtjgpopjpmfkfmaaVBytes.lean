/- Steps of states for bytes that came in: how many, one's address, a part of them. -/
import Derived.Test.YtjgpopjpmfkfmaaVWalk
import Derived.Test.YtjgpopjpmfkfmaaKApp
namespace Go.Proofs.Ytjgpopjpmfkfmaa
set_option maxRecDepth 100000
open Go.RowKit

section
variable {P : Program} {W : Bs} {n : Nat} {ops : Array Oper} {i : Nat} {o : Oper} {L : Nat → Bool} {xs : List OE} {σ : SS}
theorem u_lenV (u : Up ops i o L) (hg : Gd ops n o (run L 0 xs σ)) (dd : Nat) (hdd : o.dst = some dd) (x : Operand) (t : TypeId) (ho : o.op = .call { callee := .builtin .len, args := #[x], argTypes := #[t] }) {a : Option Addr} {m c : Nat} (hx : lookO n ops i o xs σ x = some (.val (.slice a m c))) {e : TypeId} (hu : P.underlying t = some (.slice e)) : GStep P W n ops o (run L 0 xs σ) ((eS dd (.val (.int .i64 (m : Int)))).app (run L 0 xs σ)) := by
  refine u_any u hg dd hdd _ (fun x c hp => by cases hp) fun β a w hr => ?_
  unfold execOp
  simp [ho, resolve, invoke, builtin, hr.eval (u.ev hx), SV.at, Builtin.len_, goInt, run_underlying hu]
theorem u_atX (u : Up ops i o L) (hg : Gd ops n o (run L 0 xs σ)) (dd : Nat) (hdd : o.dst = some dd) (ty : TypeId) (x ix : Operand) (ho : o.op = .indexAddr ty x ix) {b off m c : Nat} (hx : lookO n ops i o xs σ x = some (.val (.slice (some ⟨b, off, none⟩) m c))) {kd : IntKind} {k : Nat} (hi : lookO n ops i o xs σ ix = some (.val (.int kd (k : Int)))) {e : TypeId} (hu : P.underlying ty = some (.slice e)) {z : Nat} (hz : (P.info? e).map (·.size) = some z) (hk : k < m) (off' : Nat) (ho' : off' = off + k * z) : GStep P W n ops o (run L 0 xs σ) ((eS dd (.val (.pointer (some ⟨b, off', none⟩)))).app (run L 0 xs σ)) := by
  subst ho'
  refine u_any u hg dd hdd _ (fun x c hp => by cases hp) fun β a w hr => ?_
  cases hq : P.info? e with
  | none => simp [hq] at hz
  | some t =>
    have hs : t.size = z := by simpa [hq] using hz
    unfold execOp
    simp [ho, hr.eval (u.ev hx), hr.eval (u.ev hi), SV.at, Instr.indexAt, asIntOf, run_underlying hu, sizeOf, typeInfo, hq, hs, Addr.add_mid, hk]
/-- A part of bytes that came in: what a run of the cut answers is handed. -/
theorem u_part2 (u : Up ops i o L) (hg : Gd ops n o (run L 0 xs σ)) (dd : Nat) (hdd : o.dst = some dd) (ty : TypeId) (x l h : Operand) (ho : o.op = .slice ty x (some l) (some h) none) {vx vl vh : Value} (hx : lookO n ops i o xs σ x = some (.val vx)) (hl : lookO n ops i o xs σ l = some (.val vl)) (hh : lookO n ops i o xs σ h = some (.val vh)) (v : Value) (hr : ∀ w : World, (Instr.sliceAt ty vx (some vl) (some vh) none).run P w = .ok v w) : GStep P W n ops o (run L 0 xs σ) ((eS dd (.val v)).app (run L 0 xs σ)) := by
  refine u_any u hg dd hdd _ (fun x c hp => by cases hp) fun β a w hq => ?_
  unfold execOp
  simp only [ho, Option.map, hq.eval (u.ev hx), hq.eval (u.ev hl), hq.eval (u.ev hh), SV.at, Sem.run_bind, Sem.run_pure, Result.andThen_ok, hr]
theorem u_partT (u : Up ops i o L) (hg : Gd ops n o (run L 0 xs σ)) (dd : Nat) (hdd : o.dst = some dd) (ty : TypeId) (x l : Operand) (ho : o.op = .slice ty x (some l) none none) {vx vl : Value} (hx : lookO n ops i o xs σ x = some (.val vx)) (hl : lookO n ops i o xs σ l = some (.val vl)) (v : Value) (hr : ∀ w : World, (Instr.sliceAt ty vx (some vl) none none).run P w = .ok v w) : GStep P W n ops o (run L 0 xs σ) ((eS dd (.val v)).app (run L 0 xs σ)) := by
  refine u_any u hg dd hdd _ (fun x c hp => by cases hp) fun β a w hq => ?_
  unfold execOp
  simp only [ho, Option.map, hq.eval (u.ev hx), hq.eval (u.ev hl), SV.at, Sem.run_bind, Sem.run_pure, Result.andThen_ok, hr]
theorem u_partH (u : Up ops i o L) (hg : Gd ops n o (run L 0 xs σ)) (dd : Nat) (hdd : o.dst = some dd) (ty : TypeId) (x h : Operand) (ho : o.op = .slice ty x none (some h) none) {vx vh : Value} (hx : lookO n ops i o xs σ x = some (.val vx)) (hh : lookO n ops i o xs σ h = some (.val vh)) (v : Value) (hr : ∀ w : World, (Instr.sliceAt ty vx none (some vh) none).run P w = .ok v w) : GStep P W n ops o (run L 0 xs σ) ((eS dd (.val v)).app (run L 0 xs σ)) := by
  refine u_any u hg dd hdd _ (fun x c hp => by cases hp) fun β a w hq => ?_
  unfold execOp
  simp only [ho, Option.map, hq.eval (u.ev hx), hq.eval (u.ev hh), SV.at, Sem.run_bind, Sem.run_pure, Result.andThen_ok, hr]
end
/-- A part of a slice of bytes. -/
def cutA (a : Option Addr) (c k : Nat) : Option Addr := if c = k then a else a.map (·.add k)
theorem run_midS {a : Option Addr} {n c k m : Nat} (hk : k ≤ m) (hc : m ≤ c) (W : World) : (Instr.sliceAt 38 (.slice a n c) (some (.int .i64 (k : Int))) (some (.int .i64 (m : Int))) none).run Try.prog W = .ok (.slice (cutA a c k) (m - k) (c - k)) W := by
  have hu : Try.prog.underlying 38 = some (.slice (Try.prog.elem 38)) := by kernel_rfl
  have he : Try.prog.elem 38 = 5 := by kernel_rfl
  have h1 : (sizeOf 5).run Try.prog W = .ok 1 W := by
    obtain ⟨i, hi⟩ := Option.isSome_iff_exists.1 (show (Try.prog.info? 5).isSome = true by kernel_rfl)
    have : (Try.prog.info? 5).map (·.size) = some 1 := by kernel_rfl
    rw [hi] at this
    simp [sizeOf, typeInfo, hi]
    simpa using this
  rw [run_sliceAt_slice W 38 _ _ _ _ hu, run_slice_lh W 38 _ n c hu .i64 .i64 (k : Int) (m : Int) (by omega) (by omega) (by omega), he, h1]
  simp only [Result.andThen_ok, sliced, Int.toNat_natCast, Nat.mul_one, cutA]
theorem run_fromS {a : Option Addr} {n c k : Nat} (hk : k ≤ n) (W : World) : (Instr.sliceAt 38 (.slice a n c) (some (.int .i64 (k : Int))) none none).run Try.prog W = .ok (.slice (cutA a c k) (n - k) (c - k)) W := by
  have hu : Try.prog.underlying 38 = some (.slice (Try.prog.elem 38)) := by kernel_rfl
  have he : Try.prog.elem 38 = 5 := by kernel_rfl
  have h1 : (sizeOf 5).run Try.prog W = .ok 1 W := by
    obtain ⟨i, hi⟩ := Option.isSome_iff_exists.1 (show (Try.prog.info? 5).isSome = true by kernel_rfl)
    have : (Try.prog.info? 5).map (·.size) = some 1 := by kernel_rfl
    rw [hi] at this
    simp [sizeOf, typeInfo, hi]
    simpa using this
  rw [run_sliceAt_slice W 38 _ _ _ _ hu, run_slice_l W 38 _ n c hu .i64 (k : Int) (by omega) (by omega), he, h1]
  simp only [Result.andThen_ok, sliced, Int.toNat_natCast, Nat.mul_one, cutA]
theorem run_toS {a : Option Addr} {n c m : Nat} (hc : m ≤ c) (W : World) : (Instr.sliceAt 38 (.slice a n c) none (some (.int .i64 (m : Int))) none).run Try.prog W = .ok (.slice (cutA a c 0) m c) W := by
  have hu : Try.prog.underlying 38 = some (.slice (Try.prog.elem 38)) := by kernel_rfl
  have he : Try.prog.elem 38 = 5 := by kernel_rfl
  have h1 : (sizeOf 5).run Try.prog W = .ok 1 W := by
    obtain ⟨i, hi⟩ := Option.isSome_iff_exists.1 (show (Try.prog.info? 5).isSome = true by kernel_rfl)
    have : (Try.prog.info? 5).map (·.size) = some 1 := by kernel_rfl
    rw [hi] at this
    simp [sizeOf, typeInfo, hi]
    simpa using this
  rw [run_sliceAt_slice W 38 _ _ _ _ hu, run_slice_h W 38 _ n c hu .i64 (m : Int) (by omega) (by omega), he, h1]
  simp only [Result.andThen_ok, sliced, Int.toNat_natCast, Nat.mul_one, cutA, Nat.sub_zero]
theorem BA.cut {w : World} {a : Option Addr} {n : Nat} {f : Nat → Nat} (h : BA w a n f) (c k m : Nat) (hk : k + m ≤ n) (hc : n ≤ c) : BA w (cutA a c k) m (fun i => f (k + i)) := by
  refine ⟨fun i => h.lt _, ?_⟩
  by_cases h0 : m = 0
  · exact Or.inl h0
  · rcases h.at_ with hn | ⟨b, o, rfl, hr⟩
    · omega
    · refine Or.inr ⟨b, o + k, ?_, hr.part k m hk⟩
      unfold cutA
      rw [if_neg (by omega), Option.map_some, Addr.add_mid]
end Go.Proofs.Ytjgpopjpmfkfmaa
