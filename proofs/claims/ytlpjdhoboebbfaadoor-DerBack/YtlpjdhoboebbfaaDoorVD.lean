/- Walks by states of functions that defer: variables whose blocks are told, what is deferred, how such a function ends. -/
import Derived.Test.YtlpjdhoboebbfaaDoorVQ6
import Derived.Defers
import Derived.Recover
namespace Go.Proofs.YtlpjdhoboebbfaaDoor
open Go.RowKit

/-- A variable whose block is told. -/
def varPd (g : Nat) (cs : List Value) : Pd := ⟨fun v F w => v = .pointer (some ⟨g, 0, none⟩) ∧ (∀ b, F b = true ↔ b = g) ∧ w.rangeAt g 0 cs ∧ w.there g 0 cs.length, fun {v F w w'} _ hb ⟨h1, h2, h3, h4⟩ => by
  have hs := hb g ((h2 g).2 rfl)
  refine ⟨h1, h2, fun j v hv => ?_, fun j hj => ?_⟩
  · rw [World.cell?_of_block (w := w) (a := ⟨g, 0 + j, none⟩) hs]; exact h3 j v hv
  · rw [World.cell?_of_block (w := w) (a := ⟨g, 0 + j, none⟩) hs, World.frozen?_of_block (w := w) (a := ⟨g, 0 + j, none⟩) hs]; exact h4 j hj⟩
def fixS (x g : Nat) : Option SV → Option SV
  | some ⟨v, some (y, o), none, none⟩ => bif Nat.beq y x then some (.val (.pointer (some ⟨g, o, none⟩))) else some ⟨v, some (y, o), none, none⟩
  | some ⟨v, some (y, o), k, u⟩ => bif Nat.beq y x then none else some ⟨v, some (y, o), k, u⟩
  | s => s
theorem fixS_at {x g : Nat} {s : Option SV} {v : SV} (h : fixS x g s = some v) : (s = some v ∧ ∀ y o, v.p = some (y, o) → y ≠ x) ∨ ∃ o, v = .val (.pointer (some ⟨g, o, none⟩)) ∧ s = some ⟨(s.getD v).v, some (x, o), none, none⟩ := by
  have nb : ∀ {y : Nat}, Nat.beq y x = false → y ≠ x := fun h e => by rw [e] at h; simp at h
  match s, h with
  | none, h => cases h
  | some ⟨sv, none, k, u⟩, h => cases h; exact Or.inl ⟨rfl, fun _ _ e => by cases e⟩
  | some ⟨sv, some (y, o), none, none⟩, h =>
    simp only [fixS] at h
    cases hb : Nat.beq y x with
    | true =>
      simp only [hb, cond_true, Option.some.injEq] at h
      subst h
      right
      rw [Nat.eq_of_beq_eq_true hb]
      exact ⟨o, rfl, rfl⟩
    | false =>
      simp only [hb, cond_false, Option.some.injEq] at h
      subst h
      exact Or.inl ⟨rfl, fun _ _ e => by cases e; exact nb hb⟩
  | some ⟨sv, some (y, o), some k, u⟩, h =>
    simp only [fixS] at h
    cases hb : Nat.beq y x with
    | true => simp [hb] at h
    | false =>
      simp only [hb, cond_false, Option.some.injEq] at h
      subst h
      exact Or.inl ⟨rfl, fun _ _ e => by cases e; exact nb hb⟩
  | some ⟨sv, some (y, o), none, some u⟩, h =>
    simp only [fixS] at h
    cases hb : Nat.beq y x with
    | true => simp [hb] at h
    | false =>
      simp only [hb, cond_false, Option.some.injEq] at h
      subst h
      exact Or.inl ⟨rfl, fun _ _ e => by cases e; exact nb hb⟩
/-- A variable's block is told: it is a thing from now on. -/
theorem Rp.fix {W : Bs} {n : Nat} {σ : SS} {a : Act} {w : World} (h : Rp W n σ a w) (x : Nat) {cs : List Value} (hm : σ.m x = some cs) (hq : σ.q x = none) : ∃ g, Rp W n ⟨fun j => fixS x g (σ.s j), fun y => bif Nat.beq y x then none else σ.m y, fun y => bif Nat.beq y x then some (varPd g cs) else σ.q y⟩ a w := by
  obtain ⟨β, hr⟩ := h
  obtain ⟨b1, b2, b3, b4⟩ := hr.va x cs hm
  have hmx : (σ.m x).isSome = true := by rw [hm]; rfl
  have ms : ∀ y c, (bif Nat.beq y x then none else σ.m y) = some c → y ≠ x ∧ σ.m y = some c := fun y c hy => by
    cases hb : Nat.beq y x with
    | true => simp [hb] at hy
    | false =>
      simp only [hb, cond_false] at hy
      exact ⟨fun e => by rw [e] at hb; simp at hb, hy⟩
  have ms' : ∀ y, (bif Nat.beq y x then none else σ.m y).isSome = true → y ≠ x ∧ (σ.m y).isSome = true := fun y hy => by
    obtain ⟨c, hc⟩ := Option.isSome_iff_exists.1 hy
    exact ⟨(ms y c hc).1, by rw [(ms y c hc).2]; rfl⟩
  have qs : ∀ y q, (bif Nat.beq y x then some (varPd (β x).b cs) else σ.q y) = some q → (y = x ∧ q = varPd (β x).b cs) ∨ (y ≠ x ∧ σ.q y = some q) := fun y q hy => by
    cases hb : Nat.beq y x with
    | true =>
      simp only [hb, cond_true, Option.some.injEq] at hy
      exact Or.inl ⟨Nat.eq_of_beq_eq_true hb, hy.symm⟩
    | false =>
      simp only [hb, cond_false] at hy
      exact Or.inr ⟨fun e => by rw [e] at hb; simp at hb, hy⟩
  have qs' : ∀ y, (bif Nat.beq y x then some (varPd (β x).b cs) else σ.q y).isSome = true → y = x ∨ (y ≠ x ∧ (σ.q y).isSome = true) := fun y hy => by
    obtain ⟨c, hc⟩ := Option.isSome_iff_exists.1 hy
    rcases qs y c hc with h1 | ⟨h1, h2⟩
    · exact Or.inl h1.1
    · exact Or.inr ⟨h1, by rw [h2]; rfl⟩
  refine ⟨(β x).b, fun y => if y = x then ⟨(β x).b, .pointer (some ⟨(β x).b, 0, none⟩), fun b => Nat.beq b (β x).b⟩ else β y, hr.df, hr.sz, fun j v hj hv => ?_, hr.bl, fun y c hy => ?_, fun y z hy hz hn => ?_, fun j v y o hj hv e => ?_, ⟨fun y q hy => ?_, fun y z hy hz => ?_, fun y z hy hz hn b hbb => ?_, fun j v y gg hj hv e => ?_⟩⟩
  · rcases fixS_at hv with ⟨h1, h2⟩ | ⟨o, h1, h2⟩
    · rw [hr.sl j v hj h1]
      have hqt := hr.qk.qt j v
      obtain ⟨vv, vp, vk, vu⟩ := v
      cases vu with
      | some r =>
        have : r.1 ≠ x := fun e => by have := hqt r.1 r.2 hj h1 rfl; rw [e, hq] at this; cases this
        simp only [SV.at, if_neg this]
      | none => cases vp with
        | none => rfl
        | some q =>
          have : q.1 ≠ x := h2 q.1 q.2 rfl
          cases vk <;> simp only [SV.at, if_neg this]
    · subst h1
      rw [hr.sl j _ hj h2]
      rfl
  · obtain ⟨h1, h2⟩ := ms y c hy
    simp only [if_neg h1]
    exact hr.va y c h2
  · obtain ⟨h1, h2⟩ := ms' y hy
    obtain ⟨k1, k2⟩ := ms' z hz
    simp only [if_neg h1, if_neg k1]
    exact hr.ne y z h2 k2 hn
  · rcases fixS_at hv with ⟨h1, h2⟩ | ⟨o', h1, _⟩
    · have := hr.pt j v y o hj h1 e
      show (bif Nat.beq y x then none else σ.m y).isSome = true
      cases hb : Nat.beq y x with
      | true => exact absurd (Nat.eq_of_beq_eq_true hb) (h2 y o e)
      | false => exact this
    · rw [h1] at e; cases e
  · rcases qs y q hy with ⟨e1, e2⟩ | ⟨h1, h2⟩
    · subst e1; subst e2
      simp only [if_true]
      exact ⟨⟨rfl, fun b => ⟨fun h => Nat.eq_of_beq_eq_true h, fun h => by rw [h]; exact Nat.beq_refl _⟩, b3, b4⟩, fun b hb => by rw [Nat.eq_of_beq_eq_true hb]; exact ⟨b1, b2⟩⟩
    · simp only [if_neg h1]
      exact hr.qk.qa y q h2
  · obtain ⟨k1, k2⟩ := ms' z hz
    simp only [if_neg k1]
    rcases qs' y hy with e1 | ⟨h1, h2⟩
    · subst e1
      simp only [if_true]
      have := hr.ne z y k2 hmx k1
      cases hb : Nat.beq (β z).b (β y).b with
      | false => rfl
      | true => exact absurd (Nat.eq_of_beq_eq_true hb) this
    · simp only [if_neg h1]
      exact hr.qk.qm y z h2 k2
  · rcases qs' y hy with e1 | ⟨h1, h2⟩
    · subst e1
      simp only [if_true] at hbb
      have ez : z ≠ y := Ne.symm hn
      simp only [if_neg ez]
      rcases qs' z hz with e2 | ⟨_, k2⟩
      · exact absurd e2 ez
      · rw [Nat.eq_of_beq_eq_true hbb]
        exact hr.qk.qm z y k2 hmx
    · simp only [if_neg h1] at hbb
      rcases qs' z hz with e2 | ⟨k1, k2⟩
      · subst e2
        simp only [if_true]
        cases hb : Nat.beq b (β z).b with
        | false => rfl
        | true =>
          rw [Nat.eq_of_beq_eq_true hb, hr.qk.qm y z h2 hmx] at hbb
          cases hbb
      · simp only [if_neg k1]
        exact hr.qk.qq y z h2 k2 hn b hbb
  · rcases fixS_at hv with ⟨h1, h2⟩ | ⟨o', h1, _⟩
    · have := hr.qk.qt j v y gg hj h1 e
      show (bif Nat.beq y x then some (varPd (β x).b cs) else σ.q y).isSome = true
      cases hb : Nat.beq y x with
      | true => rfl
      | false => exact this
    · rw [h1] at e; cases e
/-- A thing that has no slot of its own is put anew. -/
def eV (x : Nat) (p : Pd) : OE := ⟨none, none, some (x, p), none, none⟩
theorem range_splice {w : World} {g off : Nat} {cs vs : List Value} (b3 : w.rangeAt g 0 cs) (b4 : w.there g 0 cs.length) (hl : off + vs.length ≤ cs.length) : (w.setCells g off vs).rangeAt g 0 (splice cs off vs) ∧ (w.setCells g off vs).there g 0 (splice cs off vs).length := by
  have hth : w.there g off vs.length := fun j hj => by
    have := b4 (off + j) (by omega)
    rw [Nat.zero_add] at this
    exact this
  refine ⟨fun j v hv => ?_, ?_⟩
  · rw [splice_at hl] at hv
    rw [Nat.zero_add]
    by_cases hin : off ≤ j ∧ j < off + vs.length
    · rw [if_pos hin] at hv
      have := World.rangeAt_setCells_same w g off vs hth (j - off) v hv
      rw [show off + (j - off) = j by omega] at this
      exact this
    · rw [if_neg hin] at hv
      have h1 : w.rangeAt g j [v] := fun i u hu => by
        rcases i with _ | i
        · simp at hu; subst hu
          have := b3 j v hv
          rw [Nat.zero_add] at this
          exact this
        · simp at hu
      exact World.rangeAt_setCells_apart h1 g off vs (by simp; omega) 0 v rfl
  · rw [splice_len hl]
    exact World.there_setCells b4 _ _ _
theorem setCells_frame (g : Nat) : ∀ (vs : List Value) (o : Nat) (w : World), (w.setCells g o vs).heap.size = w.heap.size ∧ (w.setCells g o vs).os = w.os ∧ (w.setCells g o vs).tape = w.tape ∧ (w.setCells g o vs).output = w.output ∧ ∀ k, k ≠ g → (w.setCells g o vs).heap[k]? = w.heap[k]? := by
  intro vs
  induction vs with
  | nil => intro o w; exact ⟨rfl, rfl, rfl, rfl, fun _ _ => rfl⟩
  | cons v r ih =>
    intro o w
    rw [World.setCells]
    obtain ⟨h1, h2, h3, h4, h5⟩ := ih (o + 1) (w.setCell ⟨g, o, none⟩ v)
    exact ⟨by rw [h1]; simp [World.setCell], h2, h3, h4, fun k hk => (h5 k hk).trans (Below.heap_setCell w _ v k hk)⟩
section
variable {P : Program} {W : Bs} {n : Nat} {ops : Array Oper} {i : Nat} {o : Oper} {L : Nat → Bool} {xs : List OE} {σ : SS}
theorem u_func (u : Up ops i o L) (hg : Gd ops n o (run L 0 xs σ)) (dd : Nat) (hdd : o.dst = some dd) (f : Fn) (cap : Array Operand) (ho : o.op = .makeFunc f #[] cap) (vs : List Value) (hx : cap.toList.map (lookO n ops i o xs σ) = vs.map (fun v => some (.val v))) : GStep P W n ops o (run L 0 xs σ) ((eS dd (.val (.func f #[] vs.toArray))).app (run L 0 xs σ)) := by
  refine u_any u hg dd hdd _ (fun _ _ e => by cases e) fun β a w hr => ?_
  have h1 := u.list cap.toList vs hx
  have key : ∀ (l : List Operand) (vs : List Value), l.map ((run L 0 xs σ).ev n) = vs.map (fun v => some (SV.val v)) → l.map a.eval = vs := by
    intro l
    induction l with
    | nil => intro vs h; cases vs with
      | nil => rfl
      | cons v vs => simp at h
    | cons x l ih => intro vs h; cases vs with
      | nil => simp at h
      | cons v vs =>
        simp only [List.map_cons, List.cons.injEq] at h ⊢
        exact ⟨hr.eval h.1, ih vs h.2⟩
  have hxs : cap.map a.eval = vs.toArray := Array.toList_inj.1 (by rw [Array.toList_map]; exact key cap.toList vs h1)
  unfold execOp
  simp [ho, Instr.makeFunc, hxs, SV.at]
theorem u_loadF (u : Up ops i o L) (hg : Gd ops n o (run L 0 xs σ)) (dd : Nat) (hdd : o.dst = some dd) (ty : TypeId) (x : Operand) (ho : o.op = .load ty x) {g off : Nat} (hx : lookO n ops i o xs σ x = some (.val (.pointer (some ⟨g, off, none⟩)))) (y : Nat) {cs : List Value} (hq : lookQ (deps o) i 0 ops.toList xs y (some (σ.q y)) = some (some (varPd g cs))) {d : TypeDesc} (hu : P.underlying ty = some d) (hd : d.isRow = true) {k : Nat} (hi : (P.info? ty).map (·.size) = some k) (hk : off + k ≤ cs.length) (vs : List Value) (hv : vs = (cs.drop off).take k) : GStep P W n ops o (run L 0 xs σ) ((eS dd (.val (.agg vs.toArray))).app (run L 0 xs σ)) := by
  refine u_valQ u hg dd hdd y hq _ fun β a w hr hp => ?_
  obtain ⟨_, _, h3, _⟩ := hp
  have ex : a.eval x = .pointer (some ⟨g, off, none⟩) := hr.eval (u.ev hx)
  have hc : w.rangeAt g off vs := fun j v hj => by
    rw [hv] at hj
    have hj2 : j < k := by
      have := (List.getElem?_eq_some_iff.1 hj).1
      simp at this; omega
    have := h3 (off + j) v (by rw [List.getElem?_take_of_lt hj2, List.getElem?_drop] at hj; exact hj)
    rw [Nat.zero_add] at this
    exact this
  have hl : vs.length = k := by rw [hv]; simp; omega
  unfold execOp
  simp only [ho, ex, Instr.loadAt, Instr.sureAddr, Sem.run_bind, Sem.run_pure, Result.andThen_ok, run_loadVar_mid w g off ty vs d hc hu hd (by rw [hl]; exact hi)]
theorem u_storeF (u : Up ops i o L) (hg : Gd ops n o (run L 0 xs σ)) (ty : TypeId) (x z : Operand) (ho : o.op = .store ty x z) (hd : o.dst = none) {g off : Nat} (hx : lookO n ops i o xs σ x = some (.val (.pointer (some ⟨g, off, none⟩)))) (y : Nat) {cs : List Value} (hq : lookQ (deps o) i 0 ops.toList xs y (some (σ.q y)) = some (some (varPd g cs))) {vs : List Value} (hz : lookO n ops i o xs σ z = some (.val (.agg vs.toArray))) (hi : (P.info? ty).map (·.size) = some vs.length) (hl : off + vs.length ≤ cs.length) (h1 : vs.all (·.oneCell') = true) (cs' : List Value) (hc : cs' = splice cs off vs) : GStep P W n ops o (run L 0 xs σ) ((eV y (varPd g cs')).app (run L 0 xs σ)) := by
  subst hc
  refine Step.gd hg fun β a w Q hr => ?_
  have hq0 := u.q hq
  obtain ⟨p1, p2, p3, p4⟩ := hr.thing hq0
  have hth : w.there g off vs.length := fun j hj => by
    have := p4 (off + j) (by omega)
    rw [Nat.zero_add] at this
    exact this
  refine wp_store_mid ty x z ho g off vs.toArray (by rw [hr.eval (u.ev hx)]; rfl) (by rw [hr.eval (u.ev hz)]; rfl) (by simpa using hth) (by simpa using hi) (by simpa using h1) ?_
  rw [hd]
  obtain ⟨f1, f2, f3, f4, f5⟩ := setCells_frame g vs off w
  have hs := range_splice p3 p4 hl
  have hF := (hr.qk.qa y _ hq0).2
  exact ⟨_, hr.turned y hq0 (varPd g (splice cs off vs)) (β y).F ⟨p1, p2, hs.1, hs.2⟩ (fun b hb => ⟨Or.inl hb, by rw [f1]; exact (hF b hb).2⟩) f2 f3 f4 (by rw [f1]; exact Nat.le_refl _) (fun k _ hk => f5 k (fun e => by rw [(p2 k).2 e] at hk; cases hk))⟩
theorem u_storeF1 (u : Up ops i o L) (hg : Gd ops n o (run L 0 xs σ)) (ty : TypeId) (x z : Operand) (ho : o.op = .store ty x z) (hd : o.dst = none) {g off : Nat} (hx : lookO n ops i o xs σ x = some (.val (.pointer (some ⟨g, off, none⟩)))) (y : Nat) {cs : List Value} (hq : lookQ (deps o) i 0 ops.toList xs y (some (σ.q y)) = some (some (varPd g cs))) {v : Value} (hz : lookO n ops i o xs σ z = some (.val v)) (hi : (P.info? ty).map (·.size) = some 1) (hl : off < cs.length) (h1 : v.oneCell' = true) (cs' : List Value) (hc : cs' = splice cs off [v]) : GStep P W n ops o (run L 0 xs σ) ((eV y (varPd g cs')).app (run L 0 xs σ)) := by
  subst hc
  refine Step.gd hg fun β a w Q hr => ?_
  have hq0 := u.q hq
  obtain ⟨p1, p2, p3, p4⟩ := hr.thing hq0
  have hth := p4 off hl
  rw [Nat.zero_add] at hth
  have hcell : v.cells = #[v] := by cases v <;> first | rfl | cases h1
  have ex : a.eval x = .pointer (some ⟨g, off, none⟩) := hr.eval (u.ev hx)
  have ez : a.eval z = v := hr.eval (u.ev hz)
  cases hq : P.info? ty with
  | none => simp [hq] at hi
  | some i =>
    have hs : i.size = 1 := by simpa [hq] using hi
    have hst : (storeVar ty ⟨g, off, none⟩ v).run P w = .ok () (w.setCell ⟨g, off, none⟩ v) := by
      have := run_storeCells_cells (P := P) g off [v] 0 w (fun j hj => by have e : j = 0 := (by simpa using hj); rw [e]; exact hth.1) (fun j hj => by have e : j = 0 := (by simpa using hj); rw [e]; exact hth.2) (fun u hu => by simp at hu; rw [hu]; exact h1)
      simp only [Nat.add_zero] at this
      simp [storeVar, sizeOf, typeInfo, hq, hcell, hs]
      rw [this]
      rfl
    unfold Oper.wp execOp
    simp only [ho, ex, ez, Instr.storeAt, Instr.sureAddr, Sem.run_bind, Sem.run_pure, Result.andThen_ok, hst, Oper.upon_skip, hd]
    obtain ⟨f1, f2, f3, f4, f5⟩ := setCells_frame g [v] off w
    have hs := range_splice (vs := [v]) p3 p4 hl
    have hF := (hr.qk.qa y _ hq0).2
    exact ⟨_, hr.turned y hq0 (varPd g (splice cs off [v])) (β y).F ⟨p1, p2, hs.1, hs.2⟩ (fun b hb => ⟨Or.inl hb, by have := (hF b hb).2; rw [← f1] at this; exact this⟩) f2 f3 f4 (Nat.le_of_eq f1.symm) (fun k _ hk => f5 k (fun e => by rw [(p2 k).2 e] at hk; cases hk))⟩
end
/-- A function that defers begins. -/
theorem enterD {P : Program} {f : FuncId} {fn : Func} {c : Code} {args : List Value} {w : World} {R : Ending → World → Prop} (hf : P.funcs[f]? = some fn) (hb : fn.body = some c) (n : Nat) (hn : fn.ntmps = n) (hl : args.length ≤ n)
    (h : ∀ a, Rp (Bs.of w) n (SS.init args) a w → c.wp P (bodyPostD P fn R) a w) : Calls P f args.toArray w R := by
  refine calls_of_wp_defers hf hb (h _ ⟨fun _ => ⟨0, undef, fun _ => false⟩, rfl, ?_, ?_, Kp.refl _ _, fun x cs hx => (by cases hx), fun x y hx => (by cases hx), fun j v x o _ hv e => (by cases hv; cases e), ⟨fun x p hx => (by cases hx), fun x y hx => (by cases hx), fun x y hx => (by cases hx), fun j v x g _ hv e => (by cases hv; cases e)⟩⟩)
  · simp [hn]; omega
  · intro j v hj hv
    cases hv
    simp only [SV.at]
    by_cases h1 : j < args.length
    · rw [Array.getElem?_append_left (by simpa using h1)]
      simp [h1]
    · rw [Array.getElem?_append_right (by simpa using h1)]
      have h2 : (Array.replicate (fn.ntmps - args.toArray.size) undef)[j - args.toArray.size]? = some undef := by
        rw [Array.getElem?_replicate, if_pos (by simp [hn]; omega)]
      rw [h2, List.getD_eq_getElem?_getD, List.getElem?_eq_none (Nat.le_of_not_lt h1)]
      rfl
section
variable {P : Program} {W : Bs} {n : Nat} {ops : Array Oper} {i : Nat} {o : Oper} {σ : SS} {Q : Exit → Act → World → Prop} {rest : List Nat} {a : Act} {w : World}
/-- A call is deferred. -/
theorem sq_defer (h : Rp W n σ a w) (ho : ops[i]? = some o) (hg : Gd ops n o σ) (x : Operand) (ts : Array TypeId) (hop : o.op = .defer { callee := .value x, args := #[], argTypes := ts }) (hd : o.dst = none) {f : Fn} {cap : List Value} (hx : σ.ev n x = some (.val (.func f #[] cap.toArray)))
    (hk : ∀ (a' : Act), Rp ⟨W.w, W.X, { target := .fn f cap.toArray, args := #[] } :: W.D⟩ n σ a' w → wpOps P ops Q rest a' w) : wpOps P ops Q (i :: rest) a w := by
  obtain ⟨β, hr⟩ := h
  rw [wpOps_cons]
  refine wpOp_step ho (fun K' hK => ?_)
  rw [if_pos (wanted_of hr hg)]
  have ex : a.eval x = .func f #[] cap.toArray := hr.eval hx
  unfold Oper.wp execOp
  simp only [hop, resolve, ex, Deferred.ofValue, Sem.run_bind, Sem.run_pure, Result.andThen_ok]
  show K' (({ a with defers := { target := .fn f cap.toArray, args := #[] ++ #[].map a.eval } :: a.defers } : Act).put o.dst undef) w
  rw [hd]
  refine hK _ _ (hk _ ⟨β, ?_, hr.sz, hr.sl, hr.bl, hr.va, hr.ne, hr.pt, ⟨hr.qk.qa, hr.qk.qm, hr.qk.qq, hr.qk.qt⟩⟩)
  show { target := .fn f cap.toArray, args := #[] ++ #[].map a.eval } :: a.defers = _
  rw [hr.df]
  simp
end
end Go.Proofs.YtlpjdhoboebbfaaDoor
