/- How a function that defers a closure ends; states for a closure that may write what it captured. -/
import Derived.Test.YtlpjdhoboebbfaaDoorVD
namespace Go.Proofs.YtlpjdhoboebbfaaDoor
open Go.RowKit

theorem Bs.kp_d {w w' : World} {D : List Deferred} (h : Bs.kp ⟨(Bs.of w).w, (Bs.of w).X, D⟩ w') : Below w.heap.size w w' := Kp.below h
theorem kp_more {w0 w w' : World} {X : Nat → Bool} (h : Below w0.heap.size w0 w) (hk : Kp X w w') (hX : ∀ k, X k = true → w0.heap.size ≤ k) : Below w0.heap.size w0 w' :=
  ⟨hk.os.trans h.os, hk.tape.trans h.tape, hk.output.trans h.output, Nat.le_trans h.size hk.size, fun k hlt => (hk.block k (Nat.lt_of_lt_of_le hlt h.size) (by
    cases hb : X k with
    | false => rfl
    | true => have := hX k hb; omega)).trans (h.block k hlt)⟩
theorem old_of {w0 : World} {D : List Deferred} {g : Nat} (h : (Bs.mk (Bs.of w0).w (Bs.of w0).X D).w.heap.size ≤ g ∨ (Bs.mk (Bs.of w0).w (Bs.of w0).X D).X g = true) : w0.heap.size ≤ g := h.resolve_right (fun e => by cases e)
theorem or3 {k a b c : Nat} {n : Nat} (h : (Nat.beq k a || Nat.beq k b || Nat.beq k c) = true) (ha : n ≤ a) (hb : n ≤ b) (hc : n ≤ c) : n ≤ k := by
  simp only [Bool.or_eq_true] at h
  rcases h with (h | h) | h
  · rw [Nat.eq_of_beq_eq_true h]; exact ha
  · rw [Nat.eq_of_beq_eq_true h]; exact hb
  · rw [Nat.eq_of_beq_eq_true h]; exact hc
theorem Rp.raw (a : Act) (w : World) (X : Nat → Bool) {n : Nat} (hd : a.defers = []) (hs : a.tmps.size = n) : Rp ⟨w, X, []⟩ n ⟨fun j => (a.tmps[j]?).map SV.val, fun _ => none, fun _ => none⟩ a w := by
  refine ⟨fun _ => ⟨0, undef, fun _ => false⟩, hd, hs, fun j v hj hv => ?_, Kp.refl _ _, fun x cs hx => (by cases hx), fun x y hx => (by cases hx), fun j v x o _ hv e => ?_, ⟨fun x p hx => (by cases hx), fun x y hx => (by cases hx), fun x y hx => (by cases hx), fun j v x g _ hv e => ?_⟩⟩
  · cases h : a.tmps[j]? with
    | none => simp [h] at hv
    | some u =>
      simp only [h, Option.map_some, Option.some.injEq] at hv
      rw [← hv]
      rfl
  · cases h : a.tmps[j]? with
    | none => simp [h] at hv
    | some u =>
      simp only [h, Option.map_some, Option.some.injEq] at hv
      rw [← hv] at e
      cases e
  · cases h : a.tmps[j]? with
    | none => simp [h] at hv
    | some u =>
      simp only [h, Option.map_some, Option.some.injEq] at hv
      rw [← hv] at e
      cases e
theorem wp_raw {P : Program} {c : Code} {Q : Exit → Act → World → Prop} {a : Act} {w : World} (X : Nat → Bool) (n : Nat) (hd : a.defers = []) (hs : a.tmps.size = n) (hk : ∀ a', Rp ⟨w, X, []⟩ n ⟨fun j => (a.tmps[j]?).map SV.val, fun _ => none, fun _ => none⟩ a' w → c.wp P Q a' w) : c.wp P Q a w := hk a (Rp.raw a w X hd hs)
/-- A block that may be written, as a thing. -/
theorem Rp.gift {W : Bs} {n : Nat} {σ : SS} {a : Act} {w : World} (h : Rp W n σ a w) (x g : Nat) (cs : List Value) (hq : σ.q x = none) (hm : ∀ y, σ.m y = none) (hX : W.X g = true) (hlt : g < w.heap.size) (h3 : w.rangeAt g 0 cs) (h4 : w.there g 0 cs.length) (hne : ∀ y p, σ.q y = some p → ∀ v F w', p.p v F w' → F g = false) : Rp W n ⟨σ.s, σ.m, fun y => bif Nat.beq y x then some (varPd g cs) else σ.q y⟩ a w := by
  obtain ⟨β, hr⟩ := h
  have g0 := hr.other (β' := fun y => if y = x then ⟨(β x).b, .pointer (some ⟨g, 0, none⟩), fun b => Nat.beq b g⟩ else β y) (fun y hy => by rw [hm y] at hy; cases hy) (fun y hy => by
    have : y ≠ x := fun e => by rw [e, hq] at hy; cases hy
    simp [this])
  have qs : ∀ y q, (bif Nat.beq y x then some (varPd g cs) else σ.q y) = some q → (y = x ∧ q = varPd g cs) ∨ (y ≠ x ∧ σ.q y = some q) := fun y q hy => by
    cases hb : Nat.beq y x with
    | true =>
      simp only [hb, cond_true, Option.some.injEq] at hy
      exact Or.inl ⟨Nat.eq_of_beq_eq_true hb, hy.symm⟩
    | false =>
      simp only [hb, cond_false] at hy
      exact Or.inr ⟨fun e => by rw [e] at hb; simp at hb, hy⟩
  refine ⟨fun y => if y = x then ⟨(β x).b, .pointer (some ⟨g, 0, none⟩), fun b => Nat.beq b g⟩ else β y, g0.df, g0.sz, g0.sl, g0.bl, g0.va, g0.ne, g0.pt, ⟨fun y q hy => ?_, fun y z hy hz => ?_, fun y z hy hz hn b hbb => ?_, fun j v y gg hj hv e => ?_⟩⟩
  · rcases qs y q hy with ⟨e1, e2⟩ | ⟨h1, h2⟩
    · subst e1; subst e2
      simp only [if_true]
      exact ⟨⟨rfl, fun b => ⟨fun h => Nat.eq_of_beq_eq_true h, fun h => by rw [h]; exact Nat.beq_refl _⟩, h3, h4⟩, fun b hb => by rw [Nat.eq_of_beq_eq_true hb]; exact ⟨Or.inr hX, hlt⟩⟩
    · exact g0.qk.qa y q h2
  · have hz : (σ.m z).isSome = true := hz
    rw [hm z] at hz
    cases hz
  · obtain ⟨qy, hqy⟩ := Option.isSome_iff_exists.1 hy
    obtain ⟨qz, hqz⟩ := Option.isSome_iff_exists.1 hz
    rcases qs y qy hqy with ⟨e1, _⟩ | ⟨h1, h2⟩
    · subst e1
      simp only [if_true] at hbb
      have ez : z ≠ y := Ne.symm hn
      rcases qs z qz hqz with ⟨e2, _⟩ | ⟨_, k2⟩
      · exact absurd e2 ez
      · simp only [if_neg ez]
        rw [Nat.eq_of_beq_eq_true hbb]
        exact hne z qz k2 _ _ _ (hr.qk.qa z qz k2).1
    · simp only [if_neg h1] at hbb
      rcases qs z qz hqz with ⟨e2, _⟩ | ⟨k1, k2⟩
      · subst e2
        simp only [if_true]
        cases hb : Nat.beq b g with
        | false => rfl
        | true =>
          rw [Nat.eq_of_beq_eq_true hb, hne y qy h2 _ _ _ (hr.qk.qa y qy h2).1] at hbb
          cases hbb
      · simp only [if_neg k1]
        exact hr.qk.qq y z (by rw [h2]; rfl) (by rw [k2]; rfl) hn b hbb
  · have := g0.qk.qt j v y gg hj hv e
    show (bif Nat.beq y x then some (varPd g cs) else σ.q y).isSome = true
    cases hb : Nat.beq y x with
    | true => rfl
    | false => exact this
/-- What is known of a told variable. -/
theorem Rp.told {W : Bs} {n : Nat} {σ : SS} {a : Act} {w : World} (h : Rp W n σ a w) {x g : Nat} {cs : List Value} (hq : σ.q x = some (varPd g cs)) : w.rangeAt g 0 cs ∧ w.there g 0 cs.length ∧ (W.w.heap.size ≤ g ∨ W.X g = true) ∧ g < w.heap.size := by
  obtain ⟨β, hr⟩ := h
  obtain ⟨⟨_, p2, p3, p4⟩, hF⟩ := hr.qk.qa x _ hq
  have := hF g ((p2 g).2 rfl)
  exact ⟨p3, p4, this.1, this.2⟩
theorem Rp.told_ne {W : Bs} {n : Nat} {σ : SS} {a : Act} {w : World} (h : Rp W n σ a w) {x y g k : Nat} {cs ds : List Value} (hx : σ.q x = some (varPd g cs)) (hy : σ.q y = some (varPd k ds)) (hn : x ≠ y) : g ≠ k := by
  obtain ⟨β, hr⟩ := h
  obtain ⟨⟨_, p2, _⟩, _⟩ := hr.qk.qa x _ hx
  obtain ⟨⟨_, r2, _⟩, _⟩ := hr.qk.qa y _ hy
  intro e
  have := hr.qk.qq x y (by rw [hx]; rfl) (by rw [hy]; rfl) hn g ((p2 g).2 rfl)
  rw [(r2 g).2 e] at this
  cases this
theorem Rp.slot {W : Bs} {n : Nat} {σ : SS} {a : Act} {w : World} (h : Rp W n σ a w) {d : Nat} (hd : d < n) {v : Value} (hs : σ.s d = some (.val v)) : a.tmps[d]? = some v := by
  obtain ⟨β, hr⟩ := h
  exact hr.sl d _ hd hs
theorem Rp.defers {W : Bs} {n : Nat} {σ : SS} {a : Act} {w : World} (h : Rp W n σ a w) : a.defers = W.D := by
  obtain ⟨β, hr⟩ := h
  exact hr.df
section
variable {P : Program} {W : Bs} {n : Nat} {σ : SS} {a : Act} {w : World} {fn : Func} {R : Ending → World → Prop} {F : Nat} {cap : List Value}
/-- It returns, and what is deferred does nothing. -/
theorem leave_ret (h : Rp W n σ a w) (hD : W.D = [{ target := .fn (.func F) cap.toArray, args := #[] }]) (hE : ∀ w, (callFunc F cap.toArray).run P w = .ok (.enter F cap.toArray) w) (hC : CallsD P F cap.toArray .returning w fun e u' w' => e = .returned (.tuple #[]) ∧ u' = .returning ∧ w' = w) {v : Value} (hv : (results fn a.tmps).run P w = .ok v w) (hR : R (.returned v) w) : bodyPostD P fn R .ret a w := by
  show Leaves P fn a.tmps R a.defers .returning w
  rw [h.defers, hD]
  refine leaves_cons (f := F) (args := cap.toArray) (by simp) (by simp only [invoke]; rw [show (#[] ++ cap.toArray : Array Value) = cap.toArray by simp]; exact hE w) ?_
  refine hC.mono ?_
  rintro e u' w' ⟨rfl, rfl, rfl⟩
  exact ⟨v, hv, hR⟩
/-- It panics, and what is deferred recovers. -/
theorem leave_pan (h : Rp W n σ a w) (hD : W.D = [{ target := .fn (.func F) cap.toArray, args := #[] }]) (hE : ∀ w, (callFunc F cap.toArray).run P w = .ok (.enter F cap.toArray) w) {t : TypeId} {pv : Value} {S : World → Prop} (hC : CallsD P F cap.toArray (.panicking [{ v := .iface t pv, recovered := false }]) w fun e u' w' => e = .returned (.tuple #[]) ∧ u' = .panicking [{ v := .iface t pv, recovered := true }] ∧ S w') (hk : ∀ w', S w' → ∃ v, (results fn a.tmps).run P w' = .ok v w' ∧ R (.returned v) w') : bodyPostD P fn R (.panic [{ v := .iface t pv, recovered := false }]) a w := by
  show Leaves P fn a.tmps R a.defers (.panicking [{ v := .iface t pv, recovered := false }]) w
  rw [h.defers, hD]
  refine leaves_cons (f := F) (args := cap.toArray) (by simp) (by simp only [invoke]; rw [show (#[] ++ cap.toArray : Array Value) = cap.toArray by simp]; exact hE w) ?_
  refine hC.mono ?_
  rintro e u' w' ⟨rfl, rfl, hS⟩
  exact hk w' hS
end
/-- Three answers out of told variables: two rows and one cell. -/
theorem res_three {P : Program} {fn : Func} {tmps : Array Value} {w : World} {d1 d2 d3 : Nat} {t1 t3 : TypeId} (hres : fn.results = #[.cell d1 t1, .cell d2 t1, .cell d3 t3]) {g1 g2 g3 : Nat} (h1 : tmps[d1]? = some (.pointer (some ⟨g1, 0, none⟩))) (h2 : tmps[d2]? = some (.pointer (some ⟨g2, 0, none⟩))) (h3 : tmps[d3]? = some (.pointer (some ⟨g3, 0, none⟩))) {c1 c2 : List Value} {v : Value} (r1 : w.rangeAt g1 0 c1) (r2 : w.rangeAt g2 0 c2) (r3 : w.rangeAt g3 0 [v]) {td td3 : TypeDesc} (hu : P.underlying t1 = some td) (hr : td.isRow = true) (hi : (P.info? t1).map (·.size) = some c1.length) (hi2 : c2.length = c1.length) (hu3 : P.underlying t3 = some td3) (hr3 : td3.isRow = false) : (results fn tmps).run P w = .ok (.tuple [.agg c1.toArray, .agg c2.toArray, v].toArray) w := by
  have l1 := run_loadVar_mid (P := P) w g1 0 t1 c1 td r1 hu hr hi
  have l2 := run_loadVar_mid (P := P) w g2 0 t1 c2 td r2 hu hr (by rw [hi2]; exact hi)
  have hagg : (isAgg t3).run P w = .ok false w := by
    unfold isAgg
    rw [Sem.run_bind, run_underlying hu3 w]
    cases td3 <;> simp_all
  have l3 : (loadVar t3 ⟨g3, 0, none⟩).run P w = .ok v w := by
    have hc : w.cell? ⟨g3, 0, none⟩ = some v := r3 0 v rfl
    simp [loadVar, hagg, hc]
  simp [results, hres, asAddr, h1, h2, h3, l1, l2, l3]
end Go.Proofs.YtlpjdhoboebbfaaDoor
