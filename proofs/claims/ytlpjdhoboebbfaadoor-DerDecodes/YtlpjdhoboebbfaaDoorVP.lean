/- Walks by states where a function panics, or calls one that does. -/
import Derived.Test.YtlpjdhoboebbfaaDoorVQ5
namespace Go.Proofs.YtlpjdhoboebbfaaDoor
open Go.RowKit

/-- It panics, with a value that isn't nil. -/
def Pn (e : Ending) : Prop := ∃ t v, e = .panicked [{ v := .iface t v, recovered := false }]
section
variable {P : Program} {W : Bs} {n : Nat} {ops : Array Oper} {i : Nat} {o : Oper} {σ : SS} {Q : Exit → Act → World → Prop} {rest : List Nat} {a : Act} {w : World}
theorem sq_callP (h : Rp W n σ a w) (ho : ops[i]? = some o) (hg : Gd ops n o σ) (F : Nat) (ar : Array Operand) (ts : Array TypeId) (hop : o.op = .call { callee := .value (.func F), args := ar, argTypes := ts }) (ss : List SV) (hx : ar.toList.map (σ.ev n) = ss.map some) (hE : ∀ (vs : Array Value) (w : World), (callFunc F vs).run P w = .ok (.enter F vs) w)
    (hC : ∀ β, Rep W n β σ a w → Calls P F (ss.map (SV.at β)).toArray w fun e w' => Pn e ∧ Below w.heap.size w w')
    (hk : ∀ (t : TypeId) (v : Value) (w' : World), Rp W n σ a w' → Q (.panic [{ v := .iface t v, recovered := false }]) a w') : wpOps P ops Q (i :: rest) a w := by
  obtain ⟨β, hr⟩ := h
  rw [wpOps_cons]
  refine wpOp_step ho (fun K' hK => ?_)
  rw [if_pos (wanted_of hr hg)]
  have hf : a.eval (.func F) = .func (.func F) #[] #[] := rfl
  have key : ∀ (l : List Operand) (ss : List SV), l.map (σ.ev n) = ss.map some → l.map a.eval = ss.map (SV.at β) := by
    intro l
    induction l with
    | nil => intro ss h; cases ss with
      | nil => rfl
      | cons v vs => simp at h
    | cons x l ih => intro ss h; cases ss with
      | nil => simp at h
      | cons v vs =>
        simp only [List.map_cons, List.cons.injEq] at h ⊢
        exact ⟨hr.eval h.1, ih vs h.2⟩
  have hxs : ar.map a.eval = (ss.map (SV.at β)).toArray := Array.toList_inj.1 (by rw [Array.toList_map]; exact key ar.toList ss hx)
  unfold Oper.wp execOp
  simp only [hop, resolve, invoke, hf, Deferred.ofValue, hxs, Sem.run_bind, Sem.run_pure, Result.andThen_ok]
  rw [show (#[] ++ (ss.map (SV.at β)).toArray ++ #[] : Array Value) = (ss.map (SV.at β)).toArray by simp, hE, Oper.upon_enter]
  refine Calls.mono (hC β hr) ?_
  rintro e w' ⟨⟨t, v, rfl⟩, hb⟩
  exact hk t v w' ⟨β, hr.grow hb⟩
/-- An operation that panics by itself. -/
theorem sq_halt (h : Rp W n σ a w) (ho : ops[i]? = some o) (hg : Gd ops n o σ) (hC : ∀ β, Rep W n β σ a w → ∃ t v, (execOp a.eval o).run P w = .halt (.panic (.iface t v)) w)
    (hk : ∀ (t : TypeId) (v : Value), Rp W n σ a w → Q (.panic [{ v := .iface t v, recovered := false }]) a w) : wpOps P ops Q (i :: rest) a w := by
  obtain ⟨β, hr⟩ := h
  rw [wpOps_cons]
  refine wpOp_step ho (fun K' hK => ?_)
  rw [if_pos (wanted_of hr hg)]
  obtain ⟨t, v, hrun⟩ := hC β hr
  unfold Oper.wp
  rw [hrun]
  exact hk t v ⟨β, hr⟩
theorem sq_panic (h : Rp W n σ a w) (ho : ops[i]? = some o) (hg : Gd ops n o σ) (x : Operand) (hop : o.op = .panic x) {t : TypeId} {v : Value} (hx : σ.ev n x = some (.val (.iface t v)))
    (hk : ∀ (t : TypeId) (v : Value), Rp W n σ a w → Q (.panic [{ v := .iface t v, recovered := false }]) a w) : wpOps P ops Q (i :: rest) a w := by
  refine sq_halt h ho hg (fun β hr => ⟨t, v, ?_⟩) hk
  have e : a.eval x = .iface t v := hr.eval hx
  unfold execOp
  simp [hop, e, Instr.panic]
end
section
variable {P : Program} {K : Act → World → Prop} {Q : Exit → Act → World → Prop} {a : Act} {w : World} {ch : List PanicEntry}
theorem then_pan (h : Q (.panic ch) a w) : Exit.then K Q (.panic ch) a w := h
theorem blk_pan {i : Nat} (h : Q (.panic ch) a w) : Exit.inBlock i Q (.panic ch) a w := h
end
theorem pan_end {P : Program} {w0 : World} {n : Nat} {σ : SS} {a : Act} {w : World} {fn : Func} {t : TypeId} {v : Value} (h : Rp (Bs.of w0) n σ a w) : bodyPost P fn (fun e w' => Pn e ∧ Below w0.heap.size w0 w') (.panic [{ v := .iface t v, recovered := false }]) a w := by
  have hb := h.grows
  obtain ⟨β, hp⟩ := h
  exact ⟨hp.df, ⟨t, v, rfl⟩, hb⟩
theorem end_none {P : Program} {W : Bs} {n : Nat} {σ : SS} {a : Act} {w : World} {fn : Func} {R : Ending → World → Prop} (h : Rp W n σ a w) (hres : fn.results = #[]) (hR : R (.returned (.tuple #[])) w) (hD : W.D = [] := by first | rfl | assumption) : bodyPost P fn R .normal a w := by
  obtain ⟨β, hp⟩ := h
  exact ⟨hp.df.trans hD, .tuple #[], by simp [results, hres], hR⟩
section
variable {P : Program} {W : Bs} {n : Nat} {ops : Array Oper} {i : Nat} {o : Oper} {L : Nat → Bool} {xs : List OE} {σ : SS}
theorem u_iface (u : Up ops i o L) (hg : Gd ops n o (run L 0 xs σ)) (dd : Nat) (hdd : o.dst = some dd) (t : TypeId) (x : Operand) (ho : o.op = .makeInterface t x) {v : Value} (hx : lookO n ops i o xs σ x = some (.val v)) (v' : Value) (hr : ∀ w, (Instr.makeInterface t v).run P w = .ok v' w) : GStep P W n ops o (run L 0 xs σ) ((eS dd (.val v')).app (run L 0 xs σ)) := by
  refine u_any u hg dd hdd _ (fun _ _ e => by cases e) fun β a w hq => ?_
  have ex : a.eval x = v := hq.eval (u.ev hx)
  unfold execOp
  simp [ho, ex, hr w, SV.at]
end
end Go.Proofs.YtlpjdhoboebbfaaDoor
