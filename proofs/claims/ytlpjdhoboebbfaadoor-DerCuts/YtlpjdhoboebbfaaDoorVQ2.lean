/- Things: the operations that yield, make or append to them. -/
import Derived.Test.YtlpjdhoboebbfaaDoorVQ
namespace Go.Proofs.YtlpjdhoboebbfaaDoor
open Go.RowKit

/-- A thing has been turned: the value that leads to it is as it was. -/
theorem Rep.turned {W : Bs} {n : Nat} {β : Nat → Loc} {τ : SS} {a : Act} {w w' : World} (hr : Rep W n β τ a w) (x : Nat) {p0 : Pd} (hx0 : τ.q x = some p0) (p : Pd) (Fp : Nat → Bool) (hp : p.p (β x).v Fp w') (hF : ∀ b, Fp b = true → ((β x).F b = true ∨ w.heap.size ≤ b) ∧ b < w'.heap.size) (h1 : w'.os = w.os) (h2 : w'.tape = w.tape) (h3 : w'.output = w.output) (h4 : w.heap.size ≤ w'.heap.size) (h5 : ∀ k, k < w.heap.size → (β x).F k = false → w'.heap[k]? = w.heap[k]?) : Rep W n (fun y => if y = x then ⟨(β x).b, (β x).v, Fp⟩ else β y) (τ.obj x p) a w' := by
  have hx' : (τ.q x).isSome = true := by rw [hx0]; rfl
  have hxF := (hr.qk.qa x p0 hx0).2
  have hkp : W.kp w' := by
    have hk : Kp W.X W.w w := hr.bl
    refine ⟨h1.trans hk.os, h2.trans hk.tape, h3.trans hk.output, Nat.le_trans hk.size h4, fun k hlt hX => (h5 k (Nat.lt_of_lt_of_le hlt hk.size) ?_).trans (hk.block k hlt hX)⟩
    cases hFk : (β x).F k with
    | false => rfl
    | true =>
      rcases (hxF k hFk).1 with h1 | h1
      · omega
      · rw [hX] at h1; cases h1
  have bsame : ∀ y, (if y = x then (⟨(β x).b, (β x).v, Fp⟩ : Loc) else β y).b = (β y).b := fun y => by
    by_cases e : y = x
    · subst e; simp
    · simp [e]
  have vsame : ∀ y, (if y = x then (⟨(β x).b, (β x).v, Fp⟩ : Loc) else β y).v = (β y).v := fun y => by
    by_cases e : y = x
    · subst e; simp
    · simp [e]
  have far : ∀ y, y ≠ x → (τ.q y).isSome = true → ∀ b, (β y).F b = true → b < w.heap.size ∧ (β x).F b = false := fun y hn hy b hb' => by
    obtain ⟨q, hq⟩ := Option.isSome_iff_exists.1 hy
    exact ⟨((hr.qk.qa y q hq).2 b hb').2, hr.qk.qq y x hy hx' hn b hb'⟩
  have notF : ∀ b, b < w.heap.size → (β x).F b = false → Fp b = false := fun b hlt hf => by
    cases hFb : Fp b with
    | false => rfl
    | true =>
      rcases (hF b hFb).1 with h1 | h1
      · rw [hf] at h1; cases h1
      · omega
  have qold : ∀ y, ((τ.obj x p).q y).isSome = true → y = x ∨ (y ≠ x ∧ (τ.q y).isSome = true) := fun y hy => by
    by_cases e : y = x
    · exact Or.inl e
    · exact Or.inr ⟨e, by simpa [SS.obj, e] using hy⟩
  have g : Rep W n (fun y => if y = x then ⟨(β x).b, (β x).v, Fp⟩ else β y) (τ.obj x p) a w' := by
    refine ⟨hr.df, hr.sz, fun j s hj hs => ?_, hkp, fun y cs hy => ?_, fun y z hy hz hn => ?_, hr.pt, ⟨fun y q hy => ?_, fun y z hy hz => ?_, fun y z hy hz hn b hbb => ?_, fun j s y gg hj hs e => ?_⟩⟩
    · rw [hr.sl j s hj hs]
      obtain ⟨sv, sp, sk, su⟩ := s
      cases su with
      | some r => simp only [SV.at, vsame]
      | none => cases sp with
        | none => rfl
        | some q => cases sk <;> simp only [SV.at, bsame]
    · rw [bsame]
      obtain ⟨c1, c2, c3, c4⟩ := hr.va y cs hy
      have hsame := h5 _ c2 (hr.qk.qm x y hx' (by show (τ.m y).isSome = true; rw [show τ.m y = some cs from hy]; rfl))
      refine ⟨c1, Nat.lt_of_lt_of_le c2 h4, fun j v hv => ?_, fun j hj => ?_⟩
      · rw [World.cell?_of_block (w := w) hsame]; exact c3 j v hv
      · rw [World.cell?_of_block (w := w) hsame, World.frozen?_of_block (w := w) hsame]; exact c4 j hj
    · rw [bsame, bsame]; exact hr.ne y z hy hz hn
    · by_cases e : y = x
      · subst e
        simp only [SS.obj, if_true, Option.some.injEq] at hy
        subst hy
        simp only [if_true]
        refine ⟨hp, fun b hFb => ⟨?_, (hF b hFb).2⟩⟩
        rcases (hF b hFb).1 with h1 | h1
        · exact (hxF b h1).1
        · exact Or.inl (Nat.le_trans (Kp.size hr.bl) h1)
      · simp only [SS.obj, if_neg e] at hy
        simp only [if_neg e]
        obtain ⟨q1, q2⟩ := hr.qk.qa y q hy
        refine ⟨q.keep h4 (fun b hb' => ?_) q1, fun b hb' => ⟨(q2 b hb').1, Nat.lt_of_lt_of_le (q2 b hb').2 h4⟩⟩
        have := far y e (by rw [hy]; rfl) b hb'
        exact h5 b this.1 this.2
    · rw [bsame]
      obtain ⟨cz, hcz⟩ := Option.isSome_iff_exists.1 hz
      rcases qold y hy with e | ⟨e, h3⟩
      · subst e
        simp only [if_true]
        exact notF _ (hr.va z cz hcz).2.1 (hr.qk.qm y z hx' hz)
      · simp only [if_neg e]
        exact hr.qk.qm y z h3 hz
    · rcases qold y hy with ey | ⟨k1, k3⟩
      · subst ey
        simp only [if_true] at hbb
        have ez : z ≠ y := Ne.symm hn
        rcases qold z hz with e | ⟨_, k3⟩
        · exact absurd e ez
        · simp only [if_neg ez]
          cases hFz : (β z).F b with
          | false => rfl
          | true =>
            have := far z ez k3 b hFz
            rw [notF b this.1 this.2] at hbb
            cases hbb
      · simp only [if_neg k1] at hbb
        rcases qold z hz with ez | ⟨j1, j3⟩
        · subst ez
          simp only [if_true]
          have := far y k1 k3 b hbb
          exact notF b this.1 this.2
        · simp only [if_neg j1]
          exact hr.qk.qq y z k3 j3 hn b hbb
    · have := hr.qk.qt j s y gg hj hs e
      by_cases ey : y = x
      · subst ey; simp [SS.obj]
      · simpa [SS.obj, ey] using this
  exact g
section
variable {P : Program} {W : Bs} {n : Nat} {ops : Array Oper} {i : Nat} {o : Oper} {L : Nat → Bool} {xs : List OE} {σ : SS}
/-- Any operation that only yields, out of the value that leads to a thing. -/
theorem u_anyQ (u : Up ops i o L) (hg : Gd ops n o (run L 0 xs σ)) (dd : Nat) (hdd : o.dst = some dd) (x : Nat) {p : Pd} (hq : lookQ (deps o) i 0 ops.toList xs x (some (σ.q x)) = some (some p)) (g : Value → Value) (h : ∀ (β : Nat → Loc) (a : Act) (w : World), Rep W n β (run L 0 xs σ) a w → p.p (β x).v (β x).F w → (execOp a.eval o).run P w = .ok (.value (g (β x).v)) w) : GStep P W n ops o (run L 0 xs σ) ((eS dd (.unk x g)).app (run L 0 xs σ)) := by
  have e : (eS dd (.unk x g)).app (run L 0 xs σ) = (run L 0 xs σ).set o.dst (.unk x g) := by rw [hdd]; rfl
  rw [e]
  refine Step.gd hg (v_val _ (fun _ _ e => by cases e) (fun y g' e => by cases e; rw [u.q hq]; rfl) fun β a w hr => ?_)
  exact h β a w hr (hr.thing (u.q hq))
/-- .. and one that yields a plain value, by what is known of a thing. -/
theorem u_valQ (u : Up ops i o L) (hg : Gd ops n o (run L 0 xs σ)) (dd : Nat) (hdd : o.dst = some dd) (x : Nat) {p : Pd} (hq : lookQ (deps o) i 0 ops.toList xs x (some (σ.q x)) = some (some p)) (v : Value) (h : ∀ (β : Nat → Loc) (a : Act) (w : World), Rep W n β (run L 0 xs σ) a w → p.p (β x).v (β x).F w → (execOp a.eval o).run P w = .ok (.value v) w) : GStep P W n ops o (run L 0 xs σ) ((eS dd (.val v)).app (run L 0 xs σ)) := by
  refine u_any u hg dd hdd _ (fun _ _ e => by cases e) fun β a w hr => ?_
  exact h β a w hr (hr.thing (u.q hq))
theorem u_copyQ (u : Up ops i o L) (hg : Gd ops n o (run L 0 xs σ)) (dd : Nat) (hdd : o.dst = some dd) (x : Operand) (ho : o.op = .move x ∨ o.op = .assign x) {y : Nat} {g : Value → Value} (hx : lookO n ops i o xs σ x = some (.unk y g)) {p : Pd} (hq : lookQ (deps o) i 0 ops.toList xs y (some (σ.q y)) = some (some p)) : GStep P W n ops o (run L 0 xs σ) ((eS dd (.unk y g)).app (run L 0 xs σ)) := by
  refine u_anyQ u hg dd hdd y hq g fun β a w hr _ => ?_
  unfold execOp
  rcases ho with ho | ho <;> simp only [ho, hr.eval (u.ev hx), Sem.run_pure] <;> rfl
/-- A call that answers a thing that it made. -/
theorem u_callQ (u : Up ops i o L) (hg : Gd ops n o (run L 0 xs σ)) (dd : Nat) (hdd : o.dst = some dd) (hn : lookQ (deps o) i 0 ops.toList xs dd (some (σ.q dd)) = some none) (F : Nat) (ar : Array Operand) (ts : Array TypeId) (ho : o.op = .call { callee := .value (.func F), args := ar, argTypes := ts }) (ss : List SV) (hx : ar.toList.map (lookO n ops i o xs σ) = ss.map some) (hE : ∀ (vs : Array Value) (w : World), (callFunc F vs).run P w = .ok (.enter F vs) w) (p : Pd)
    (hC : ∀ (β : Nat → Loc) (a : Act) (w : World), Rep W n β (run L 0 xs σ) a w → Calls P F (ss.map (SV.at β)).toArray w fun e w' => ∃ v Fp, e = .returned v ∧ p.p v Fp w' ∧ (∀ b, Fp b = true → w.heap.size ≤ b ∧ b < w'.heap.size) ∧ Below w.heap.size w w') : GStep P W n ops o (run L 0 xs σ) ((eQ dd p).app (run L 0 xs σ)) := by
  refine u_callG u hg F ar ts ho ss hx hE _ fun β a w hr => Calls.mono (hC β a w hr) ?_
  rintro e w' ⟨v, Fp, rfl, hp, hF, hb⟩
  refine ⟨v, rfl, fun y => if y = dd then ⟨(β dd).b, v, Fp⟩ else β y, ?_⟩
  have g := hr.gets hb dd (u.q hn) p v Fp hp hF
  rw [hdd]
  exact g
/-- A call that turns a thing, and answers a plain value. -/
theorem u_callT (u : Up ops i o L) (hg : Gd ops n o (run L 0 xs σ)) (dd : Nat) (hdd : o.dst = some dd) (F : Nat) (ar : Array Operand) (ts : Array TypeId) (ho : o.op = .call { callee := .value (.func F), args := ar, argTypes := ts }) (ss : List SV) (hx : ar.toList.map (lookO n ops i o xs σ) = ss.map some) (hE : ∀ (vs : Array Value) (w : World), (callFunc F vs).run P w = .ok (.enter F vs) w) (x : Nat) {p0 : Pd} (hq : lookQ (deps o) i 0 ops.toList xs x (some (σ.q x)) = some (some p0)) (v : Value) (p : Pd)
    (hC : ∀ (β : Nat → Loc) (a : Act) (w : World), Rep W n β (run L 0 xs σ) a w → Calls P F (ss.map (SV.at β)).toArray w fun e w' => e = .returned v ∧ ∃ Fp, p.p (β x).v Fp w' ∧ (∀ b, Fp b = true → ((β x).F b = true ∨ w.heap.size ≤ b) ∧ b < w'.heap.size) ∧ w'.os = w.os ∧ w'.tape = w.tape ∧ w'.output = w.output ∧ w.heap.size ≤ w'.heap.size ∧ ∀ k, k < w.heap.size → (β x).F k = false → w'.heap[k]? = w.heap[k]?) : GStep P W n ops o (run L 0 xs σ) ((eT dd (.val v) x p).app (run L 0 xs σ)) := by
  refine u_callG u hg F ar ts ho ss hx hE _ fun β a w hr => Calls.mono (hC β a w hr) ?_
  rintro e w' ⟨rfl, Fp, hp, hF, h1, h2, h3, h4, h5⟩
  refine ⟨v, rfl, fun y => if y = x then ⟨(β x).b, (β x).v, Fp⟩ else β y, ?_⟩
  rw [hdd]
  have g := hr.turned x (u.q hq) p Fp hp hF h1 h2 h3 h4 h5
  exact g.put (some dd) (.val v) val_hp val_hu
end
/-- A row of one's own. -/
def rowPd (e : TypeId) (size n : Nat) (cs : List Value) : Pd := ⟨fun v F w => w.ownsRow 0 e size v n cs ∧ ∀ b, F b = true ↔ v.ownBlock = some b, fun {v F w w'} _ hb ⟨ho, hF⟩ => by
  refine ⟨⟨ho.1, ?_⟩, hF⟩
  rcases ho.2 with h | ⟨g, cap, cur, hv, h0, hg, h1⟩
  · exact Or.inl h
  · exact Or.inr ⟨g, cap, cur, hv, h0, by rw [hb g ((hF g).2 (by rw [hv]; rfl))]; exact hg, h1⟩⟩
theorem row_of {e : TypeId} {size n : Nat} {cs : List Value} {w : World} {base : Nat} {v : Value} (h : w.ownsRow base e size v n cs) : (rowPd e size n cs).p v (fun b => decide (v.ownBlock = some b)) w ∧ ∀ b, (fun b => decide (v.ownBlock = some b)) b = true → base ≤ b ∧ b < w.heap.size :=
  ⟨⟨⟨h.1, h.2.imp id fun ⟨g, cap, cur, a1, _, a3⟩ => ⟨g, cap, cur, a1, Nat.zero_le _, a3⟩⟩, fun b => by simp⟩, fun b hb => h.lt b (by simpa using hb)⟩
/-- Bytes that are appended to a row of one's own, and where the new row lies. -/
theorem run_appAt {W : World} {v : Value} {n : Nat} {l : List Nat} (hown : W.ownsRow 0 5 1 v n (cells8 l)) {x : Option Addr} {m c : Nat} {f : Nat → Nat} (hx : BA W x m f) (hb : n + m ≤ 1000000) (ty : TypeId) :
    ∃ v' w', (Builtin.append_ #[22, 22] ty #[v, .slice x m c]).run Tryd.prog W = .ok v' w' ∧ w'.ownsRow 0 5 1 v' (n + m) (cells8 (l ++ fl f m)) ∧ W.grownBy w' v.ownBlock ∧ (v'.ownBlock = v.ownBlock ∨ v'.ownBlock = some W.heap.size) := by
  obtain ⟨i0, hi, hz0, hz1, hz2⟩ := info_parts info8
  rcases hx.at_ with rfl | ⟨b, o, rfl, hr⟩
  · refine ⟨v, W, run_append_zero W 0 _ _ 5 i0 1 Tryd.underlying22 hi v n _ hown x c, ?_, World.grownBy.refl _ _, Or.inl rfl⟩
    rw [show fl f 0 = [] from rfl, List.append_nil]
    exact hown
  · obtain ⟨v', w', h1, h2, h3, _, h5⟩ := run_append_own_at (P := Tryd.prog) W 0 22 ty 5 i0 (.int .u8 0) 1 1 Tryd.underlying22 hi hz0 hz1 hz2 rfl (by decide) v n _ hown ⟨b, o, none⟩ m c (cells8 (fl f m)) (by rw [cells8_len, fl_len]; omega) (fun j u hu => by
      have hj : j < m := by
        rcases Nat.lt_or_ge j m with h' | h'
        · exact h'
        · rw [List.getElem?_eq_none (by rw [cells8_len, fl_len]; exact h')] at hu; cases hu
      have hc := hr.c j hj
      rw [cells8_at _ j (by rw [fl_len]; exact hj), List.getD_eq_getElem?_getD, fl_at f hj] at hu
      have ea : (⟨b, o, none⟩ : Addr).add j = ⟨b, o + j, none⟩ := by unfold Addr.add; split <;> simp_all
      rw [ea, hc]
      simpa using hu) (cells8_one _) (by unfold maxLen; omega) (by omega) (Nat.zero_le _)
    refine ⟨v', w', h1, ?_, h3, h5⟩
    rw [show cells8 (l ++ fl f m) = cells8 l ++ cells8 (fl f m) from List.map_append]
    exact h2
theorem wanted_of {W : Bs} {n : Nat} {ops : Array Oper} {o : Oper} {σ : SS} {a : Act} {w : World} {β : Nat → Loc} (hr : Rep W n β σ a w) (hg : Gd ops n o σ) : Region.wanted o (yielded ops a.tmps) = true := by
  cases hgd : o.guard with
  | none => simp [Region.wanted, hgd]
  | some q =>
    obtain ⟨j, b⟩ := q
    have := yes_eq ⟨β, hr⟩ (hg j b hgd)
    simp [Region.wanted, hgd, this]
/-- Bytes of a row, as bytes that are handed on. -/
theorem row_ba {w : World} {v : Value} {F : Nat → Bool} {n : Nat} {l : List Nat} (h : (rowPd 5 1 n (cells8 l)).p v F w) (hl : ∀ x ∈ l, x < 256) : ∃ z c, v = .slice z n c ∧ n ≤ c ∧ l.length = n ∧ BA w z n (fun i => l.getD i 0) := by
  have hlen : l.length = n := by have := h.1.1; rw [cells8_len] at this; omega
  obtain ⟨z, c, rfl, h1, _⟩ := own_max h.1
  have e : l = fl (fun i => l.getD i 0) n := by
    apply List.ext_getElem?
    intro i
    rcases Nat.lt_or_ge i n with hi | hi
    · rw [fl_at _ hi, List.getElem?_eq_getElem (by omega)]
      simp [List.getD_eq_getElem?_getD, List.getElem?_eq_getElem (show i < l.length by omega)]
    · rw [List.getElem?_eq_none (by omega), List.getElem?_eq_none (by rw [fl_len]; exact hi)]
  refine ⟨z, c, rfl, h1, hlen, own_ba (by rw [← e]; exact h.1) (fun i => ?_)⟩
  rw [List.getD_eq_getElem?_getD]
  cases hi : l[i]? with
  | none => simp
  | some x => simpa using hl x (List.mem_of_getElem? hi)
section
variable {W : Bs} {n : Nat} {ops : Array Oper} {i : Nat} {o : Oper} {σ : SS} {Q : Exit → Act → World → Prop} {rest : List Nat} {a : Act} {w : World}
/-- Bytes are appended to a thing that is a row; the thing's name may change. -/
theorem sq_appQ (h : Rp W n σ a w) (ho : ops[i]? = some o) (hg : Gd ops n o σ) (dd : Nat) (hdd : o.dst = some dd) (s x : Operand) (hop : o.op = .call { callee := .builtin .append, args := #[s, x], argTypes := #[22, 22] }) (y : Nat) (hs : σ.ev n s = some (.unk y id)) {k : Nat} {l : List Nat} (hy : σ.q y = some (rowPd 5 1 k (cells8 l))) (hd : dd = y ∨ σ.q dd = none) {m : Nat} {f : Nat → Nat} (hx : ∀ β, Rep W n β σ a w → ∃ z c, a.eval x = .slice z m c ∧ BA w z m f) (hb : k + m ≤ 1000000) (s' : List (Nat × SV)) (hs' : AllS σ.s s') (hc : clearOf y s' = true)
    (hk : ∀ (a' : Act) (w' : World), Rp W n (σ.turn s' y dd (rowPd 5 1 (k + m) (cells8 (l ++ fl f m))) (.unk dd id) dd) a' w' → wpOps Tryd.prog ops Q rest a' w') : wpOps Tryd.prog ops Q (i :: rest) a w := by
  obtain ⟨β, hr⟩ := h
  rw [wpOps_cons]
  refine wpOp_step ho (fun K' hK => ?_)
  rw [if_pos (wanted_of hr hg)]
  obtain ⟨z, c, ex, hba⟩ := hx β hr
  have hrow := hr.thing hy
  have es : a.eval s = (β y).v := hr.eval hs
  obtain ⟨v', w', hrun, hO, hG, hat⟩ := run_appAt (c := c) hrow.1 hba hb o.type
  unfold Oper.wp execOp
  simp only [hop, resolve, invoke, builtin, Sem.run_bind, Sem.run_pure, Result.andThen_ok, List.map_toArray, List.map_cons, List.map_nil, es, ex, hrun]
  obtain ⟨hp, hF⟩ := row_of hO
  have g := hr.swap y hy hG.os hG.tape hG.output hG.size (fun k hk hf => hG.block k hk (fun e => by
    rw [(hrow.2 k).2 e.symm] at hf
    cases hf)) s' hs' hc dd hd _ v' _ hp (fun b hb => ⟨by
      have hb' : v'.ownBlock = some b := by simpa using hb
      rcases hat with hat | hat
      · left; exact (hrow.2 b).2 (hat.symm.trans hb')
      · right; rw [hat] at hb'; cases hb'; exact Nat.le_refl _, (hF b hb).2⟩) dd (.unk dd id) (Or.inl rfl)
  rw [show ((SV.unk dd id).at fun _ => (⟨0, v', fun b => decide (v'.ownBlock = some b)⟩ : Loc)) = v' from rfl] at g
  show K' (a.put o.dst v') w'
  rw [hdd]
  exact hK _ _ (hk _ w' ⟨_, g⟩)
end
section
variable {W : Bs} {n : Nat} {ops : Array Oper} {i : Nat} {o : Oper} {L : Nat → Bool} {xs : List OE} {σ : SS}
/-- Bytes are appended to a thing that is a row, in a region of whatever order. -/
theorem u_appQ (u : Up ops i o L) (hg : Gd ops n o (run L 0 xs σ)) (dd : Nat) (hdd : o.dst = some dd) (hn : lookQ (deps o) i 0 ops.toList xs dd (some (σ.q dd)) = some none) (s x : Operand) (hop : o.op = .call { callee := .builtin .append, args := #[s, x], argTypes := #[22, 22] }) (y : Nat) (hs : lookO n ops i o xs σ s = some (.unk y id)) {k : Nat} {l : List Nat} (hy : lookQ (deps o) i 0 ops.toList xs y (some (σ.q y)) = some (some (rowPd 5 1 k (cells8 l)))) (hne : Nat.beq dd y = false) {m : Nat} {f : Nat → Nat} (hx : ∀ (β : Nat → Loc) (a : Act) (w : World), Rep W n β (run L 0 xs σ) a w → ∃ z c, a.eval x = .slice z m c ∧ BA w z m f) (hb : k + m ≤ 1000000) : GStep Tryd.prog W n ops o (run L 0 xs σ) ((eA dd (rowPd 5 1 (k + m) (cells8 (l ++ fl f m))) y).app (run L 0 xs σ)) := by
  refine Step.gd hg fun β a w Q hr => ?_
  obtain ⟨z, c, ex, hba⟩ := hx β a w hr
  have hy0 := u.q hy
  have hrow := hr.thing hy0
  have es : a.eval s = (β y).v := hr.eval (u.ev hs)
  obtain ⟨v', w', hrun, hO, hG, hat⟩ := run_appAt (c := c) hrow.1 hba hb o.type
  unfold Oper.wp execOp
  simp only [hop, resolve, invoke, builtin, Sem.run_bind, Sem.run_pure, Result.andThen_ok, List.map_toArray, List.map_cons, List.map_nil, es, ex, hrun]
  obtain ⟨hp, hF⟩ := row_of hO
  have hdy : dd ≠ y := fun e => by rw [e] at hne; simp at hne
  have g := hr.spent y hy0 hG.os hG.tape hG.output hG.size (fun k hk hf => hG.block k hk (fun e => by
    rw [(hrow.2 k).2 e.symm] at hf
    cases hf)) dd hdy (u.q hn) _ v' _ hp (fun b hb => ⟨by
      have hb' : v'.ownBlock = some b := by simpa using hb
      rcases hat with hat | hat
      · left; exact (hrow.2 b).2 (hat.symm.trans hb')
      · right; rw [hat] at hb'; cases hb'; exact Nat.le_refl _, (hF b hb).2⟩)
  show (fun a' w' => ∃ β', Rep W n β' _ a' w') (a.put o.dst v') w'
  rw [hdd]
  have e : (eA dd (rowPd 5 1 (k + m) (cells8 (l ++ fl f m))) y).app (run L 0 xs σ) = (⟨(run L 0 xs σ).s, (run L 0 xs σ).m, fun z => if z = y then some pd0 else if z = dd then some (rowPd 5 1 (k + m) (cells8 (l ++ fl f m))) else (run L 0 xs σ).q z⟩ : SS).set (some dd) (.unk dd id) := by
    refine SS.ext (fun j => rfl) (fun j => rfl) (fun j => ?_)
    show (if some y = some j then some pd0 else if j = dd then _ else _) = (if j = y then some pd0 else _)
    by_cases e : j = y
    · subst e; simp
    · rw [if_neg (fun e2 => e (Option.some.inj e2).symm), if_neg e]
  rw [e]
  exact ⟨_, g⟩
end
/-- No bytes, as a row of one's own. -/
theorem Rp.nil {W : Bs} {n : Nat} {σ : SS} {a : Act} {w : World} (h : Rp W n σ a w) (e : TypeId) (size d j : Nat) (hd : σ.q d = none) (hj : σ.s j = some (.val (.slice none 0 0))) : Rp W n ⟨fun i => bif Nat.beq i j then some (.unk d id) else σ.s i, σ.m, fun y => bif Nat.beq y d then some (rowPd e size 0 []) else σ.q y⟩ a w := by
  obtain ⟨β, hr⟩ := h
  have g := hr.other (β' := fun y => if y = d then ⟨(β d).b, .slice none 0 0, fun _ => false⟩ else β y) (fun y hy => by
    by_cases e : y = d
    · subst e; simp
    · simp [e]) (fun y hy => by
    have : y ≠ d := fun e => by rw [e, hd] at hy; cases hy
    simp [this])
  have qs : ∀ y q, (bif Nat.beq y d then some (rowPd e size 0 []) else σ.q y) = some q → (y = d ∧ q = rowPd e size 0 []) ∨ (y ≠ d ∧ σ.q y = some q) := fun y q hy => by
    cases hb : Nat.beq y d with
    | true =>
      simp only [hb, cond_true, Option.some.injEq] at hy
      exact Or.inl ⟨Nat.eq_of_beq_eq_true hb, hy.symm⟩
    | false =>
      simp only [hb, cond_false] at hy
      exact Or.inr ⟨fun e => by rw [e] at hb; simp at hb, hy⟩
  have qs2 : ∀ y, (bif Nat.beq y d then some (rowPd e size 0 []) else σ.q y).isSome = true → y = d ∨ (y ≠ d ∧ (σ.q y).isSome = true) := fun y hy => by
    obtain ⟨q, hq⟩ := Option.isSome_iff_exists.1 hy
    rcases qs y q hq with h1 | ⟨h1, h2⟩
    · exact Or.inl h1.1
    · exact Or.inr ⟨h1, by rw [h2]; rfl⟩
  refine ⟨fun y => if y = d then ⟨(β d).b, .slice none 0 0, fun _ => false⟩ else β y, g.df, g.sz, fun i v hi hv => ?_, g.bl, g.va, g.ne, fun i v x o hi hv e => ?_, ⟨fun y q hy => ?_, fun y z hy hz => ?_, fun y z hy hz hn b hbb => ?_, fun i v y gg hi hv e => ?_⟩⟩
  · cases hb : Nat.beq i j with
    | true =>
      simp only [hb, cond_true, Option.some.injEq] at hv
      subst hv
      rw [Nat.eq_of_beq_eq_true hb] at hi ⊢
      rw [g.sl j _ hi hj]
      simp [SV.at]
    | false =>
      simp only [hb, cond_false] at hv
      exact g.sl i v hi hv
  · cases hb : Nat.beq i j with
    | true =>
      simp only [hb, cond_true, Option.some.injEq] at hv
      subst hv
      cases e
    | false =>
      simp only [hb, cond_false] at hv
      exact g.pt i v x o hi hv e
  · rcases qs y q hy with ⟨e1, e2⟩ | ⟨h1, h2⟩
    · subst e1; subst e2
      simp only [if_true]
      exact ⟨⟨World.ownsRow_nil _ _ _ _, fun b => by simp [Value.ownBlock]⟩, fun b hb => by cases hb⟩
    · have := g.qk.qa y q h2
      exact this
  · rcases qs2 y hy with e1 | ⟨h1, h2⟩
    · subst e1; simp only [if_true]
    · exact g.qk.qm y z h2 hz
  · rcases qs2 y hy with e1 | ⟨h1, h2⟩
    · subst e1
      simp only [if_true] at hbb
      cases hbb
    · rcases qs2 z hz with e1 | ⟨k1, k2⟩
      · subst e1; simp only [if_true]
      · exact g.qk.qq y z h2 k2 hn b hbb
  · show (bif Nat.beq y d then some (rowPd _ size 0 []) else σ.q y).isSome = true
    cases hb : Nat.beq i j with
    | true =>
      simp only [hb, cond_true, Option.some.injEq] at hv
      subst hv
      cases e
      rw [Nat.beq_refl]
      rfl
    | false =>
      simp only [hb, cond_false] at hv
      have := g.qk.qt i v y gg hi hv e
      cases hb2 : Nat.beq y d with
      | true => rfl
      | false => exact this
/-- A thing is the answer. -/
theorem ret_thing {P : Program} {w0 : World} {n : Nat} {σ : SS} {a : Act} {w : World} {fn : Func} {R : Ending → World → Prop} (h : Rp (Bs.of w0) n σ a w) (d : Nat) (hres : fn.results = #[.tmp d]) (hd : d < n) (x : Nat) (g : Value → Value) (hs : σ.s d = some (.unk x g)) {p : Pd} (hx : σ.q x = some p) (hR : ∀ v F, p.p v F w → (∀ b, F b = true → w0.heap.size ≤ b ∧ b < w.heap.size) → R (.returned (g v)) w) : bodyPost P fn R .ret a w := by
  obtain ⟨β, hp⟩ := h
  obtain ⟨h1, h2⟩ := hp.qk.qa x p hx
  refine ⟨hp.df, g (β x).v, ?_, hR _ _ h1 (fun b hb => ⟨?_, (h2 b hb).2⟩)⟩
  · have e : a.tmps[d]? = some (g (β x).v) := by
      rw [hp.sl d _ hd hs]
      rfl
    simp [results, hres, e]
  · rcases (h2 b hb).1 with h3 | h3
    · exact h3
    · cases h3
theorem row_back {e : TypeId} {size n : Nat} {cs : List Value} {w : World} {base : Nat} {v : Value} {F : Nat → Bool} (h : (rowPd e size n cs).p v F w) (hb : ∀ b, F b = true → base ≤ b ∧ b < w.heap.size) : w.ownsRow base e size v n cs := by
  refine ⟨h.1.1, ?_⟩
  rcases h.1.2 with h1 | ⟨g, cap, cur, hv, _, h1⟩
  · exact Or.inl h1
  · exact Or.inr ⟨g, cap, cur, hv, (hb g ((h.2 g).2 (by rw [hv]; rfl))).1, h1⟩
end Go.Proofs.YtlpjdhoboebbfaaDoor
