/- Things: literals, lengths, conversions. -/
import Derived.Test.YtlpjdhoboebbfaaDoorVQ2
import Derived.Test.YtlpjdhoboebbfaaDoorVBytes
namespace Go.Proofs.YtlpjdhoboebbfaaDoor
open Go.RowKit

section
variable {W : Bs} {n : Nat} {ops : Array Oper} {i : Nat} {o : Oper} {L : Nat → Bool} {xs : List OE} {σ : SS}
/-- Bytes written out: a row of one's own. -/
theorem u_litQ (u : Up ops i o L) (hg : Gd ops n o (run L 0 xs σ)) (dd : Nat) (hdd : o.dst = some dd) (hn : lookQ (deps o) i 0 ops.toList xs dd (some (σ.q dd)) = some none) (len : Nat) (ps : Array (Nat × Operand)) (ho : o.op = .buildSlice 22 len ps) (vs : List (Nat × Value)) (hp : ps.toList.map (fun q => (q.1, lookO n ops i o xs σ q.2)) = vs.map (fun q => (q.1, some (SV.val q.2)))) (cs : List Value) (hlen : len ≤ 1000) (hcl : cs.length = len) (hf : Instr.fill (fun i => some (i * 1, 1)) ((Array.range (len * 1)).map (fun x => (if len * 1 = 0 then #[] else #[Value.int .u8 0])[x % (if len * 1 = 0 then #[] else #[Value.int .u8 0]).size]!)) vs = some cs.toArray) : GStep Tryd.prog W n ops o (run L 0 xs σ) ((eQ dd (rowPd 5 1 len cs)).app (run L 0 xs σ)) := by
  refine Step.gd hg fun β a w Q hr => ?_
  have key : ∀ (l : List (Nat × Operand)) (vs : List (Nat × Value)), l.map (fun q => (q.1, lookO n ops i o xs σ q.2)) = vs.map (fun q => (q.1, some (SV.val q.2))) → l.map (fun q => (q.1, a.eval q.2)) = vs := by
    intro l
    induction l with
    | nil => intro vs h; cases vs with
      | nil => rfl
      | cons v vs => simp at h
    | cons q l ih => intro vs h; cases vs with
      | nil => simp at h
      | cons v vs =>
        simp only [List.map_cons, List.cons.injEq, Prod.mk.injEq] at h ⊢
        refine ⟨?_, ih vs h.2⟩
        rw [h.1.1, hr.eval (u.ev h.1.2)]
        rfl
  have e : ((ps.map fun (i, x) => (i, a.eval x)).toList : List (Nat × Value)) = vs := by
    rw [Array.toList_map]
    exact key ps.toList vs hp
  obtain ⟨i0, hi, hz0, hz1, hz2⟩ := info_parts info8
  have hrun : (Instr.buildSlice 22 len (ps.map fun (i, x) => (i, a.eval x))).run Tryd.prog w = .ok (.slice (some ⟨w.heap.size, 0, none⟩) len len) (w.alloc (.cells cs.toArray 5)) := by
    have hsz : (sizeOf 5).run Tryd.prog w = .ok 1 w := by simp [sizeOf, typeInfo, hi, hz1]
    have hzv : (zeroValue 5).run Tryd.prog w = .ok (.int .u8 0) w := by simp [zeroValue, typeInfo, hi, hz0]
    have hle : ¬ len * 1 > 2 ^ 24 := by omega
    unfold Instr.buildSlice
    simp only [Sem.run_bind, run_underlying Tryd.underlying22 w, Result.andThen_ok, hsz, if_neg hle]
    by_cases h0 : len * 1 = 0
    · simp only [if_pos h0, Sem.run_bind, Sem.run_pure, Result.andThen_ok] at hf ⊢
      rw [e, hf]
      simp [newRow]
    · simp only [if_neg h0, Sem.run_bind, hzv, Sem.run_pure, Result.andThen_ok] at hf ⊢
      rw [e, show (Value.int .u8 0).cells = #[Value.int .u8 0] from rfl, hf]
      simp [newRow]
  unfold Oper.wp execOp
  simp only [ho, Sem.run_bind, hrun, Result.andThen_ok, Sem.run_pure]
  have hO : (w.alloc (.cells cs.toArray 5)).ownsRow w.heap.size 5 1 (.slice (some ⟨w.heap.size, 0, none⟩) len len) len cs := World.ownsRow_lit w cs.toArray len (Nat.le_refl _) (by unfold maxLen; omega) (by simp [hcl])
  obtain ⟨hp1, hF⟩ := row_of hO
  have g := hr.gets (Below.alloc (Below.refl _ w) (Nat.le_refl _) (.cells cs.toArray 5)) dd (u.q hn) _ _ _ hp1 hF
  show (fun a' w' => ∃ β', Rep W n β' _ a' w') (a.put o.dst (.slice (some ⟨w.heap.size, 0, none⟩) len len)) (w.alloc (.cells cs.toArray 5))
  rw [hdd]
  exact ⟨_, g⟩
/-- How many a row has. -/
theorem u_lenQ (u : Up ops i o L) (hg : Gd ops n o (run L 0 xs σ)) (dd : Nat) (hdd : o.dst = some dd) (x : Operand) (t : TypeId) (ho : o.op = .call { callee := .builtin .len, args := #[x], argTypes := #[t] }) {y : Nat} (hx : lookO n ops i o xs σ x = some (.unk y id)) {e : TypeId} {size m : Nat} {cs : List Value} (hq : lookQ (deps o) i 0 ops.toList xs y (some (σ.q y)) = some (some (rowPd e size m cs))) (hu : Tryd.prog.underlying t = some (.slice e)) : GStep Tryd.prog W n ops o (run L 0 xs σ) ((eS dd (.val (.int .i64 (m : Int)))).app (run L 0 xs σ)) := by
  refine u_valQ u hg dd hdd y hq _ fun β a w hr hp => ?_
  have ex : a.eval x = (β y).v := hr.eval (u.ev hx)
  obtain ⟨z, c, hv⟩ : ∃ z c, (β y).v = .slice z m c := by
    rcases hp.1.2 with ⟨h1, h2⟩ | ⟨g, cap, cur, h1, _⟩
    · exact ⟨none, 0, by rw [h1, h2]⟩
    · exact ⟨_, _, h1⟩
  unfold execOp
  simp [ho, resolve, invoke, builtin, ex, hv, Builtin.len_, goInt, run_underlying hu]
/-- A conversion. -/
theorem u_conv {P : Program} (u : Up ops i o L) (hg : Gd ops n o (run L 0 xs σ)) (dd : Nat) (hdd : o.dst = some dd) (s d : TypeId) (x : Operand) (ho : o.op = .convert s d x) {v : Value} (hx : lookO n ops i o xs σ x = some (.val v)) (v' : Value) (h : ∀ w, (convert s d v).run P w = .ok v' w) : GStep P W n ops o (run L 0 xs σ) ((eS dd (.val v')).app (run L 0 xs σ)) := by
  refine u_any u hg dd hdd _ (fun _ _ e => by cases e) fun β a w hr => ?_
  have ex : a.eval x = v := hr.eval (u.ev hx)
  unfold execOp
  simp [ho, ex, h w, SV.at]
end
theorem c_u8 (k : Int) (h : 0 ≤ k ∧ k < 256) (w : World) : (convert 3 5 (.int .i64 k)).run Tryd.prog w = .ok (.int .u8 k) w := by
  have e : IntKind.u8.wrap k = k := by
    simp only [IntKind.wrap, IntKind.bits, IntKind.signed]
    simp
    omega
  simp [convert, run_underlying Tryd.underlying5, run_underlying Tryd.underlying3, Conv.intToInt, e]
theorem c_int (k : Int) (h : 0 ≤ k ∧ k < 256) (w : World) : (convert 5 3 (.int .u8 k)).run Tryd.prog w = .ok (.int .i64 k) w := by
  have e : IntKind.i64.wrap k = k := wrap_in k ⟨by omega, by omega⟩
  simp [convert, run_underlying Tryd.underlying5, run_underlying Tryd.underlying3, Conv.intToInt, e]
theorem thing_of {P : Program} {F : Nat} {args : Array Value} {w : World} {e : TypeId} {size n : Nat} {cs : List Value} (h : Calls P F args w fun r w' => ∃ v, r = .returned v ∧ w'.ownsRow w.heap.size e size v n cs ∧ Below w.heap.size w w') : Calls P F args w fun r w' => ∃ v Fp, r = .returned v ∧ (rowPd e size n cs).p v Fp w' ∧ (∀ b, Fp b = true → w.heap.size ≤ b ∧ b < w'.heap.size) ∧ Below w.heap.size w w' :=
  Calls.mono h (fun _ _ ⟨v, h1, h2, h3⟩ => ⟨v, _, h1, (row_of h2).1, (row_of h2).2, h3⟩)
end Go.Proofs.YtlpjdhoboebbfaaDoor
