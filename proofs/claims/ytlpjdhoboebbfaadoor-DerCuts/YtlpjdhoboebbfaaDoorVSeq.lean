/- Regions that keep to the text's order, operation by operation: calls whose answers are not told ahead; the states are then told over the world behind the call. -/
import Derived.Test.YtlpjdhoboebbfaaDoorVWalk
import Derived.Test.YtlpjdhoboebbfaaDoorKApp
namespace Go.Proofs.YtlpjdhoboebbfaaDoor
open Go.RowKit

def seqFrom : Nat → List Oper → Bool
  | _, [] => true
  | k, o :: os => lessAll k (deps o) && seqFrom (k + 1) os
theorem seq_spec : ∀ {k : Nat} {os : List Oper}, seqFrom k os = true → ∀ j o, os[j]? = some o → ∀ d ∈ deps o, d < k + j
  | k, [], _, j, o, ho, _, _ => by simp at ho
  | k, o' :: os, h, j, o, ho, d, hd => by
    simp only [seqFrom, Bool.and_eq_true] at h
    cases j with
    | zero =>
      simp at ho
      subst ho
      exact lessAll_spec h.1 d hd
    | succ j =>
      have := seq_spec h.2 j o (by simpa using ho) d hd
      omega
theorem up_seq {ops : Array Oper} {i : Nat} {o : Oper} (hs : seqFrom 0 ops.toList = true) (ho : ops[i]? = some o) : Up ops i o (fun j => decide (j < i)) := by
  refine ⟨by simp, fun j hj => ?_, fun k ok hk hLk j hj => ?_⟩
  · have := seq_spec hs i o (by simpa using ho) j hj
    simp; omega
  · have := seq_spec hs k ok (by simpa using hk) j hj
    simp only [decide_eq_true_eq] at hLk ⊢
    omega
section
variable {P : Program} {W : Bs} {n : Nat} {ops : Array Oper} {i : Nat} {o : Oper} {σ σ' : SS} {Q : Exit → Act → World → Prop} {rest : List Nat} {a : Act} {w : World}
theorem sq_begin {id : Nat} (l : List Nat) (hl : List.range ops.size = l) (h : wpOps P ops Q l a w) : (Code.region id ops false).wp P Q a w := wp_region (by rw [hl]; exact h)
theorem sq_end (h : Q .normal a w) : wpOps P ops Q [] a w := h
theorem sq_step (h : Rp W n σ a w) (ho : ops[i]? = some o) (hg : GStep P W n ops o σ σ') (hk : ∀ a w, Rp W n σ' a w → wpOps P ops Q rest a w) : wpOps P ops Q (i :: rest) a w := by
  rw [wpOps_cons]
  refine wpOp_step ho (fun K' hK => ?_)
  have g := hg a w Q h
  split
  · rename_i hw
    rw [if_pos hw] at g
    exact Oper.wp_mono (fun a' w' hR' => hK a' w' (hk a' w' hR')) g
  · rename_i hw
    rw [if_neg hw] at g
    exact hK _ _ (hk _ _ g)
end
/-- The world behind a call takes the place of the one at the beginning: what was made before the call may be written, what it made may not. -/
def Bs.re (W : Bs) (w w' : World) : Bs := ⟨w', fun k => W.X k || (Nat.ble W.w.heap.size k && Nat.blt k w.heap.size), W.D⟩
theorem re_kp {W : Bs} {w w' w2 : World} (h1 : W.kp w') (h : (W.re w w').kp w2) : W.kp w2 := by
  have h1 : Kp W.X W.w w' := h1
  have h : Kp (fun k => W.X k || (Nat.ble W.w.heap.size k && Nat.blt k w.heap.size)) w' w2 := h
  refine ⟨h.os.trans h1.os, h.tape.trans h1.tape, h.output.trans h1.output, Nat.le_trans h1.size h.size, fun k hk hx => ?_⟩
  rw [h.block k (Nat.lt_of_lt_of_le hk h1.size) (by
    have : Nat.ble W.w.heap.size k = false := by
      cases hb : Nat.ble W.w.heap.size k with
      | false => rfl
      | true => have := Nat.le_of_ble_eq_true hb; omega
    simp only [hx, this, Bool.false_and, Bool.or_false])]
  exact h1.block k hk hx
/-- Blocks that the call made are kept. -/
theorem re_new {W : Bs} {w w' : World} (hX : ∀ k, W.X k = true → k < W.w.heap.size) (hs : W.w.heap.size ≤ w.heap.size) {g : Nat} (hg : w.heap.size ≤ g) : (W.re w w').X g = false := by
  show (W.X g || (Nat.ble W.w.heap.size g && Nat.blt g w.heap.size)) = false
  have h1 : W.X g = false := by
    cases h : W.X g with
    | false => rfl
    | true => have := hX g h; omega
  have h2 : Nat.blt g w.heap.size = false := by
    cases h : Nat.blt g w.heap.size with
    | false => rfl
    | true => have := Nat.blt_eq ▸ h; omega
  rw [h1, h2, Bool.and_false, Bool.or_false]
theorem re_X {W : Bs} {w w' : World} (hX : ∀ k, W.X k = true → k < W.w.heap.size) (hs : W.w.heap.size ≤ w.heap.size) (hs2 : w.heap.size ≤ w'.heap.size) : ∀ k, (W.re w w').X k = true → k < (W.re w w').w.heap.size := by
  intro k hk
  have hk : (W.X k || (Nat.ble W.w.heap.size k && Nat.blt k w.heap.size)) = true := hk
  show k < w'.heap.size
  rcases Bool.or_eq_true _ _ ▸ hk with h | h
  · have := hX k h; omega
  · have h2 : Nat.blt k w.heap.size = true := by
      cases hb : Nat.blt k w.heap.size with
      | true => rfl
      | false => rw [hb, Bool.and_false] at h; cases h
    have := (Nat.blt_eq ▸ h2 : k < w.heap.size)
    omega
theorem Rep.re {W : Bs} {n : Nat} {β : Nat → Loc} {σ : SS} {a : Act} {w w' : World} (h : Rep W n β σ a w) (hb : Below w.heap.size w w') : Rep (W.re w w') n β σ a w' := by
  have g := h.grow hb
  refine ⟨g.df, g.sz, g.sl, Kp.refl _ _, fun x cs hx => ?_, g.ne, g.pt, ⟨fun x p hx => ?_, g.qk.qm, g.qk.qq, g.qk.qt⟩⟩
  rotate_left
  · refine ⟨(g.qk.qa x p hx).1, fun b hF => ⟨Or.inr ?_, ((g.qk.qa x p hx).2 b hF).2⟩⟩
    show (W.X b || (Nat.ble W.w.heap.size b && Nat.blt b w.heap.size)) = true
    obtain ⟨h1, h2⟩ := (h.qk.qa x p hx).2 b hF
    rcases h1 with h1 | h1
    · have e1 : Nat.ble W.w.heap.size b = true := Nat.ble_eq ▸ h1
      have e2 : Nat.blt b w.heap.size = true := Nat.blt_eq ▸ h2
      rw [e1, e2]
      simp
    · rw [h1]
      rfl
  obtain ⟨h1, h2, _, _⟩ := h.va x cs hx
  obtain ⟨_, g2, g3, g4⟩ := g.va x cs hx
  refine ⟨Or.inr ?_, g2, g3, g4⟩
  show (W.X (β x).b || (Nat.ble W.w.heap.size (β x).b && Nat.blt (β x).b w.heap.size)) = true
  rcases h1 with h1 | h1
  · have e1 : Nat.ble W.w.heap.size (β x).b = true := Nat.ble_eq ▸ h1
    have e2 : Nat.blt (β x).b w.heap.size = true := Nat.blt_eq ▸ h2
    rw [e1, e2]
    simp
  · rw [h1]
    rfl
section
variable {P : Program} {W : Bs} {n : Nat} {ops : Array Oper} {i : Nat} {o : Oper} {σ : SS} {Q : Exit → Act → World → Prop} {rest : List Nat} {a : Act} {w : World}
/-- A call that only makes memory; what it answers is told by R. -/
theorem sq_call (h : Rp W n σ a w) (HX : ∀ k, W.X k = true → k < W.w.heap.size) (ho : ops[i]? = some o) (hg : Gd ops n o σ) (dd : Nat) (hdd : o.dst = some dd) (F : Nat) (ar : Array Operand) (ts : Array TypeId) (hop : o.op = .call { callee := .value (.func F), args := ar, argTypes := ts }) (vs : List Value) (hx : ar.toList.map (σ.ev n) = vs.map (fun v => some (SV.val v))) (hE : ∀ w, (callFunc F vs.toArray).run P w = .ok (.enter F vs.toArray) w) (R : Value → World → World → Prop)
    (hC : W.kp w → Calls P F vs.toArray w fun e w' => ∃ r, e = .returned r ∧ R r w w' ∧ Below w.heap.size w w')
    (hk : ∀ (r : Value) (a' : Act) (w' : World) (W2 : Bs), R r w w' → (∀ w2, W2.kp w2 → W.kp w2) → (∀ k, w.heap.size ≤ k → W2.X k = false) → (∀ k, W2.X k = true → k < W2.w.heap.size) → W2.w = w' → W2.D = [] → Rp W2 n (σ.set (some dd) (.val r)) a' w' → wpOps P ops Q rest a' w') (hD : W.D = [] := by first | rfl | assumption) : wpOps P ops Q (i :: rest) a w := by
  obtain ⟨β, hr⟩ := h
  rw [wpOps_cons]
  refine wpOp_step ho (fun K' hK => ?_)
  have hw : Region.wanted o (yielded ops a.tmps) = true := by
    cases hgd : o.guard with
    | none => simp [Region.wanted, hgd]
    | some q =>
      obtain ⟨j, b⟩ := q
      have := yes_eq ⟨β, hr⟩ (hg j b hgd)
      simp [Region.wanted, hgd, this]
  rw [if_pos hw]
  have hf : a.eval (.func F) = .func (.func F) #[] #[] := rfl
  have key : ∀ (l : List Operand) (vs : List Value), l.map (σ.ev n) = vs.map (fun v => some (SV.val v)) → l.map a.eval = vs := by
    intro l
    induction l with
    | nil => intro vs h; cases vs with
      | nil => rfl
      | cons v vs => simp at h
    | cons x l ih => intro vs h; cases vs with
      | nil => simp at h
      | cons v vs =>
        simp only [List.map_cons, List.cons.injEq] at h ⊢
        exact ⟨hr.eval h.1, ih vs h.2⟩
  have hxs : ar.map a.eval = vs.toArray := Array.toList_inj.1 (by rw [Array.toList_map]; exact key ar.toList vs hx)
  unfold Oper.wp execOp
  simp only [hop, resolve, invoke, hf, Deferred.ofValue, hxs, Sem.run_bind, Sem.run_pure, Result.andThen_ok]
  rw [show (#[] ++ vs.toArray ++ #[] : Array Value) = vs.toArray by simp, hE, Oper.upon_enter]
  refine Calls.mono (hC hr.bl) ?_
  rintro e w' ⟨r, rfl, hR, hb⟩
  refine hK _ _ (hk r _ w' (W.re w w') hR (fun w2 h2 => re_kp (Kp.grow hr.bl hb) h2) (fun k hk => re_new HX (Kp.size hr.bl) hk) (re_X HX (Kp.size hr.bl) hb.size) rfl hD ⟨β, ?_⟩)
  have := (hr.re hb).put (some dd) (.val r) val_hp val_hu
  rw [hdd]
  exact this
theorem gq0 (h : o.guard = none) : Gd ops n o σ := fun j b e => by rw [h] at e; cases e
theorem gq1 (j : Nat) (b : Bool) (h : o.guard = some (j, b)) (hy : σ.yes ops n j = some b) : Gd ops n o σ := fun j' b' e => by rw [h] at e; cases e; exact hy
end
theorem Rd.kpx {X : Nat → Bool} {W w : World} {b o n : Nat} {f : Nat → Int} (hk : Kp X W w) (h : Rd W b o n f) (hx : X b = false) : Rd w b o n f :=
  ⟨fun i hi => by
    have hc := h.c i hi
    rw [Kp.cell hk (World.block_lt_of_cell? W _ hc) hx]
    exact hc⟩
theorem BA.kpx {X : Nat → Bool} {W w : World} {a : Option Addr} {n : Nat} {f : Nat → Nat} (hk : Kp X W w) (h : BA W a n f) (hx : ∀ p, a = some p → X p.block = false) : BA w a n f :=
  ⟨h.lt, h.at_.elim Or.inl fun ⟨b, o, e, hr⟩ => Or.inr ⟨b, o, e, hr.kpx hk (hx _ e)⟩⟩
theorem BA.re {W2 : Bs} {w' w2 : World} {a : Option Addr} {n : Nat} {f : Nat → Nat} (hw : W2.w = w') (h2 : W2.kp w2) (h : BA w' a n f) (hx : ∀ p, a = some p → W2.X p.block = false) : BA w2 a n f := by
  subst hw
  exact BA.kpx h2 h hx
end Go.Proofs.YtlpjdhoboebbfaaDoor
