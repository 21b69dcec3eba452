/- Things of bytes, looked at: a row, or bytes that are only read; parts of them; their elements. -/
import Derived.Test.YtlpjdhoboebbfaaDoorVP
namespace Go.Proofs.YtlpjdhoboebbfaaDoor
open Go.RowKit

/-- What g makes of the value that leads to the thing is a slice of those bytes. -/
def Vw (p : Pd) (g : Value → Value) (n : Nat) (l : List Nat) : Prop := ∀ v F w, p.p v F w → ∃ z c, g v = .slice z n c ∧ n ≤ c ∧ l.length = n ∧ BA w z n (fun i => l.getD i 0)
theorem vw_row {n : Nat} {l : List Nat} (hl : ∀ x ∈ l, x < 256) : Vw (rowPd 5 1 n (cells8 l)) id n l := fun _ _ _ h => by
  obtain ⟨z, c, h1, h2, h3, h4⟩ := row_ba h hl
  exact ⟨z, c, h1, h2, h3, h4⟩
/-- Bytes that are only read. -/
def rdPd (n : Nat) (l : List Nat) : Pd := ⟨fun v F w => ∃ z c, v = .slice z n c ∧ n ≤ c ∧ l.length = n ∧ BA w z n (fun i => l.getD i 0) ∧ ∀ p, z = some p → F p.block = true, fun {v F w w'} _ hb ⟨z, c, h1, h2, h3, h4, h5⟩ => by
  refine ⟨z, c, h1, h2, h3, ⟨h4.lt, ?_⟩, h5⟩
  rcases h4.at_ with h0 | ⟨b, o, rfl, hr⟩
  · exact Or.inl h0
  · exact Or.inr ⟨b, o, rfl, ⟨fun i hi => by rw [World.cell?_of_block (w := w) (hb b (h5 _ rfl))]; exact hr.c i hi⟩⟩⟩
theorem vw_rd {n : Nat} {l : List Nat} : Vw (rdPd n l) id n l := fun _ _ _ ⟨z, c, h1, h2, h3, h4, _⟩ => ⟨z, c, h1, h2, h3, h4⟩
/-- A callee's new bytes, as a thing that is only read. -/
theorem rd_of {P : Program} {F : Nat} {args : Array Value} {w : World} {n : Nat} {l : List Nat} (hl : l.length = n) (h : Calls P F args w fun r w' => ∃ g c, r = .returned (.slice (some ⟨g, 0, none⟩) n c) ∧ n ≤ c ∧ w.heap.size ≤ g ∧ g < w'.heap.size ∧ BA w' (some ⟨g, 0, none⟩) n (fun i => l.getD i 0) ∧ Below w.heap.size w w') : Calls P F args w fun r w' => ∃ v Fp, r = .returned v ∧ (rdPd n l).p v Fp w' ∧ (∀ b, Fp b = true → w.heap.size ≤ b ∧ b < w'.heap.size) ∧ Below w.heap.size w w' :=
  Calls.mono h (fun _ _ ⟨g, c, h1, h2, h3, h4, h5, h6⟩ => ⟨_, fun b => Nat.beq b g, h1, ⟨_, c, rfl, h2, hl, h5, fun p hp => by cases hp; exact Nat.beq_refl g⟩, fun b hb => by
    rw [Nat.eq_of_beq_eq_true hb]
    exact ⟨h3, h4⟩, h6⟩)
theorem vw_tail {p : Pd} {g : Value → Value} {n : Nat} {l : List Nat} (h : Vw p g n l) (k : Nat) (hk : k ≤ n) : Vw p (fun v => tailV k (g v)) (n - k) (l.drop k) := fun v F w hp => by
  obtain ⟨z, c, h1, h2, h3, h4⟩ := h v F w hp
  refine ⟨cutA z c k, c - k, by show tailV k (g v) = _; rw [h1]; rfl, by omega, by rw [List.length_drop, h3], ?_⟩
  have e := h4.cut c k (n - k) (by omega) h2
  have e2 : (fun i => l.getD (k + i) 0) = fun i => (l.drop k).getD i 0 := by
    funext i
    rw [List.getD_eq_getElem?_getD, List.getD_eq_getElem?_getD, List.getElem?_drop]
  rw [← e2]
  exact e
theorem vw_head {p : Pd} {g : Value → Value} {n : Nat} {l : List Nat} (h : Vw p g n l) (k : Nat) (hk : k ≤ n) : Vw p (fun v => headV k (g v)) k (l.take k) := fun v F w hp => by
  obtain ⟨z, c, h1, h2, h3, h4⟩ := h v F w hp
  refine ⟨cutA z c 0, c, by show headV k (g v) = _; rw [h1]; rfl, by omega, by rw [List.length_take, h3]; omega, ?_⟩
  have e := h4.cut c 0 k (by omega) h2
  refine ⟨fun i => ?_, e.at_.imp id fun ⟨b, o, e1, hr⟩ => ⟨b, o, e1, hr.congr (fun i hi => ?_)⟩⟩
  · have := h4.lt i
    show (l.take k).getD i 0 < 256
    rw [List.getD_eq_getElem?_getD] at this ⊢
    rw [List.getElem?_take]
    split
    · exact this
    · simp
  · show ((l.getD (0 + i) 0 : Nat) : Int) = (((l.take k).getD i 0 : Nat) : Int)
    rw [Nat.zero_add, List.getD_eq_getElem?_getD, List.getD_eq_getElem?_getD, List.getElem?_take_of_lt hi]
section
variable {W : Bs} {n : Nat} {ops : Array Oper} {i : Nat} {o : Oper} {L : Nat → Bool} {xs : List OE} {σ : SS}
theorem q_len (u : Up ops i o L) (hg : Gd ops n o (run L 0 xs σ)) (dd : Nat) (hdd : o.dst = some dd) (x : Operand) (ho : o.op = .call { callee := .builtin .len, args := #[x], argTypes := #[22] }) {y : Nat} {g : Value → Value} (hx : lookO n ops i o xs σ x = some (.unk y g)) {p : Pd} (hq : lookQ (deps o) i 0 ops.toList xs y (some (σ.q y)) = some (some p)) {m : Nat} {l : List Nat} (hv : Vw p g m l) : GStep Tryd.prog W n ops o (run L 0 xs σ) ((eS dd (.val (.int .i64 (m : Int)))).app (run L 0 xs σ)) := by
  refine u_valQ u hg dd hdd y hq _ fun β a w hr hp => ?_
  have ex : a.eval x = g (β y).v := hr.eval (u.ev hx)
  obtain ⟨z, c, h1, _⟩ := hv _ _ _ hp
  unfold execOp
  simp [ho, resolve, invoke, builtin, ex, h1, Builtin.len_, goInt, run_underlying Tryd.underlying22]
theorem q_tail (u : Up ops i o L) (hg : Gd ops n o (run L 0 xs σ)) (dd : Nat) (hdd : o.dst = some dd) (x e : Operand) (ho : o.op = .slice 22 x (some e) none none) {y : Nat} {g : Value → Value} (hx : lookO n ops i o xs σ x = some (.unk y g)) {p : Pd} (hq : lookQ (deps o) i 0 ops.toList xs y (some (σ.q y)) = some (some p)) {m : Nat} {l : List Nat} (hv : Vw p g m l) (k : Nat) (hl : lookO n ops i o xs σ e = some (.val (.int .i64 (k : Int)))) (hk : k ≤ m) : GStep Tryd.prog W n ops o (run L 0 xs σ) ((eS dd (.unk y (fun v => tailV k (g v)))).app (run L 0 xs σ)) := by
  refine u_anyQ u hg dd hdd y hq _ fun β a w hr hp => ?_
  have ex : a.eval x = g (β y).v := hr.eval (u.ev hx)
  have el : a.eval e = .int .i64 (k : Int) := hr.eval (u.ev hl)
  obtain ⟨z, c, h1, _⟩ := hv _ _ _ hp
  unfold execOp
  simp only [ho, Option.map, ex, el, h1, Sem.run_bind, Sem.run_pure, Result.andThen_ok, run_fromS hk w]
  rfl
theorem q_head (u : Up ops i o L) (hg : Gd ops n o (run L 0 xs σ)) (dd : Nat) (hdd : o.dst = some dd) (x e : Operand) (ho : o.op = .slice 22 x none (some e) none) {y : Nat} {g : Value → Value} (hx : lookO n ops i o xs σ x = some (.unk y g)) {p : Pd} (hq : lookQ (deps o) i 0 ops.toList xs y (some (σ.q y)) = some (some p)) {m : Nat} {l : List Nat} (hv : Vw p g m l) (k : Nat) (hl : lookO n ops i o xs σ e = some (.val (.int .i64 (k : Int)))) (hk : k ≤ m) : GStep Tryd.prog W n ops o (run L 0 xs σ) ((eS dd (.unk y (fun v => headV k (g v)))).app (run L 0 xs σ)) := by
  refine u_anyQ u hg dd hdd y hq _ fun β a w hr hp => ?_
  have ex : a.eval x = g (β y).v := hr.eval (u.ev hx)
  have el : a.eval e = .int .i64 (k : Int) := hr.eval (u.ev hl)
  obtain ⟨z, c, h1, h2, _⟩ := hv _ _ _ hp
  unfold execOp
  simp only [ho, Option.map, ex, el, h1, Sem.run_bind, Sem.run_pure, Result.andThen_ok, run_toS (show k ≤ c by omega) w]
  rfl
theorem q_at (u : Up ops i o L) (hg : Gd ops n o (run L 0 xs σ)) (dd : Nat) (hdd : o.dst = some dd) (x ix : Operand) (ho : o.op = .indexAddr 22 x ix) {y : Nat} {g : Value → Value} (hx : lookO n ops i o xs σ x = some (.unk y g)) {p : Pd} (hq : lookQ (deps o) i 0 ops.toList xs y (some (σ.q y)) = some (some p)) {m : Nat} {l : List Nat} (hv : Vw p g m l) (k : Nat) {kd : IntKind} (hl : lookO n ops i o xs σ ix = some (.val (.int kd (k : Int)))) (hk : k < m) : GStep Tryd.prog W n ops o (run L 0 xs σ) ((eS dd (.unk y (fun v => elemV k (g v)))).app (run L 0 xs σ)) := by
  refine u_anyQ u hg dd hdd y hq _ fun β a w hr hp => ?_
  have ex : a.eval x = g (β y).v := hr.eval (u.ev hx)
  have el : a.eval ix = .int kd (k : Int) := hr.eval (u.ev hl)
  obtain ⟨z, c, h1, _, _, h4⟩ := hv _ _ _ hp
  rcases h4.at_ with h0 | ⟨b, q, rfl, hr⟩
  · omega
  obtain ⟨t, hi, _, hz1, _⟩ := info_parts info8
  unfold execOp
  simp [ho, ex, el, h1, elemV, Instr.indexAt, asIntOf, run_underlying Tryd.underlying22, sizeOf, typeInfo, hi, hz1, Addr.add_mid, hk]
theorem q_load (u : Up ops i o L) (hg : Gd ops n o (run L 0 xs σ)) (dd : Nat) (hdd : o.dst = some dd) (x : Operand) (ho : o.op = .load 5 x) {y k : Nat} {g : Value → Value} (hx : lookO n ops i o xs σ x = some (.unk y (fun v => elemV k (g v)))) {p : Pd} (hq : lookQ (deps o) i 0 ops.toList xs y (some (σ.q y)) = some (some p)) {m : Nat} {l : List Nat} (hv : Vw p g m l) (hk : k < m) (b : Nat) (hb : l.getD k 0 = b) : GStep Tryd.prog W n ops o (run L 0 xs σ) ((eS dd (.val (.int .u8 ((b : Nat) : Int)))).app (run L 0 xs σ)) := by
  refine u_valQ u hg dd hdd y hq _ fun β a w hr hp => ?_
  have ex : a.eval x = elemV k (g (β y).v) := hr.eval (u.ev hx)
  obtain ⟨z, c, h1, _, _, h4⟩ := hv _ _ _ hp
  rcases h4.at_ with h0 | ⟨d, q, rfl, hr⟩
  · omega
  have hc : w.cell? ⟨d, q + k, none⟩ = some (.int .u8 ((b : Nat) : Int)) := by
    rw [← hb]
    exact hr.c k hk
  have hagg : (isAgg 5).run Tryd.prog w = .ok false w := by
    unfold isAgg
    rw [Sem.run_bind, run_underlying Tryd.underlying5 w]
    rfl
  unfold execOp
  simp only [ho, ex, h1, elemV]
  simp [Instr.loadAt, Instr.sureAddr, loadVar, hagg, hc]
end
/-- Bytes of a thing, where they are appended or handed on. -/
theorem vw_src {W : Bs} {n : Nat} {σ : SS} {a : Act} {w : World} {β : Nat → Loc} (hr : Rep W n β σ a w) {x : Operand} {y : Nat} {g : Value → Value} (hx : σ.ev n x = some (.unk y g)) {p : Pd} (hq : σ.q y = some p) {m : Nat} {l : List Nat} (hv : Vw p g m l) : ∃ z c, a.eval x = .slice z m c ∧ BA w z m (fun i => l.getD i 0) := by
  obtain ⟨z, c, h1, _, _, h4⟩ := hv _ _ _ (hr.thing hq)
  exact ⟨z, c, (hr.eval hx).trans h1, h4⟩
end Go.Proofs.YtlpjdhoboebbfaaDoor
