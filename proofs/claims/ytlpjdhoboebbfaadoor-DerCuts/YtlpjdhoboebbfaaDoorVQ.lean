/- Things: states with memory of one's own that isn't told cell by cell: what an operation does with them, rows that are appended to. -/
import Derived.Test.YtlpjdhoboebbfaaDoorVSeq
import Derived.Test.YtlpjdhoboebbfaaDoorKCat
import Derived.Maps.AppendAt
namespace Go.Proofs.YtlpjdhoboebbfaaDoor
open Go.RowKit

def goneO (x : OE) (y : Nat) : Bool := isSlot (x.l) y || isSlot (x.l2) y
theorem goneO_f {x : OE} {y : Nat} (h : goneO x y = false) : ¬ x.l = some y ∧ ¬ x.l2 = some y := by
  simp only [goneO, Bool.or_eq_false_iff] at h
  exact ⟨fun e => (by rw [isSlot_iff.2 e] at h; cases h.1), fun e => (by rw [isSlot_iff.2 e] at h; cases h.2)⟩
theorem goneO_t {x : OE} {y : Nat} (h : goneO x y = true) : x.l = some y ∨ x.l2 = some y := by
  simp only [goneO, Bool.or_eq_true] at h
  exact h.imp isSlot_iff.1 isSlot_iff.1
def lookQ (ds : List Nat) (i : Nat) : Nat → List Oper → List OE → Nat → Option (Option Pd) → Option (Option Pd)
  | _, _, [], _, v => v
  | _, [], _ :: _, _, _ => none
  | k, o :: os, x :: r, y, v => lookQ ds i (k + 1) os r y (bif goneO x y || isSlot (x.take) y then (bif has ds k then some (some (bif goneO x y then pd0 else x.pd)) else bif Nat.beq k i || has (deps o) i then v else none) else v)
theorem lookQ_ok {ds : List Nat} {y i : Nat} {L : Nat → Bool} (hL : ∀ i ∈ ds, L i = true) (hi : L i = false) : ∀ (os : List Oper) (xs : List OE) (k : Nat) {v0 : Option (Option Pd)} {v : Option Pd} {σ : SS}, (∀ j o, os[j]? = some o → L (k + j) = true → ∀ e ∈ deps o, L e = true) →
    lookQ ds i k os xs y v0 = some v → (∀ u, v0 = some u → σ.q y = u) → (run L k xs σ).q y = v
  | os, [], k, v0, v, σ, _, h, h0 => by
    rw [lookQ] at h
    exact h0 v h
  | [], x :: r, k, v0, v, σ, _, h, _ => by
    rw [lookQ] at h
    cases h
  | o :: os, x :: r, k, v0, v, σ, hc, h, h0 => by
    rw [lookQ] at h
    rw [run]
    refine lookQ_ok hL hi os r (k + 1) (fun j o' ho hj => hc (j + 1) o' (by simpa using ho) (by rw [show k + (j + 1) = k + 1 + j by omega]; exact hj)) h (fun u hu => ?_)
    cases hs : goneO x y || isSlot (x.take) y with
    | false =>
      simp only [hs, cond_false] at hu
      rw [← h0 u hu]
      split
      · rw [Bool.or_eq_false_iff] at hs
        rw [OE.app_q, if_neg (goneO_f hs.1).1, if_neg (goneO_f hs.1).2, if_neg (fun e => by rw [isSlot_iff.2 e] at hs; cases hs.2)]
      · rfl
    | true =>
      simp only [hs, cond_true] at hu
      cases hk : has ds k with
      | true =>
        simp only [hk, cond_true, Option.some.injEq] at hu
        rw [hL k (has_mem hk), if_pos rfl, OE.app_q, ← hu]
        cases hl : goneO x y with
        | true =>
          rcases goneO_t hl with e | e
          · rw [if_pos e]; rfl
          · by_cases e1 : x.l = some y
            · rw [if_pos e1]; rfl
            · rw [if_neg e1, if_pos e]; rfl
        | false =>
          rw [hl, Bool.false_or] at hs
          rw [if_neg (goneO_f hl).1, if_neg (goneO_f hl).2, if_pos (isSlot_iff.1 hs)]
          rfl
      | false =>
        simp only [hk, cond_false] at hu
        cases hb : Nat.beq k i || has (deps o) i with
        | false => simp [hb] at hu
        | true =>
          simp only [hb, cond_true] at hu
          have hk0 : L k = false := by
            simp only [Bool.or_eq_true] at hb
            rcases hb with hb | hb
            · rw [Nat.eq_of_beq_eq_true hb]; exact hi
            · cases hLk : L k with
              | false => rfl
              | true =>
                have := hc 0 o rfl hLk i (has_mem hb)
                rw [hi] at this
                cases this
          rw [hk0]
          simp only [Bool.false_eq_true, if_false]
          exact h0 u hu
theorem Up.q {ops : Array Oper} {i : Nat} {o : Oper} {L : Nat → Bool} (u : Up ops i o L) {xs : List OE} {σ : SS} {y : Nat} {v : Option Pd} (h : lookQ (Proofs.YtlpjdhoboebbfaaDoor.deps o) i 0 ops.toList xs y (some (σ.q y)) = some v) : (run L 0 xs σ).q y = v :=
  lookQ_ok u.deps u.no ops.toList xs 0 (fun j o' ho hj e he => u.cl j o' (by simpa using ho) (by simpa using hj) e he) h (fun u hu => by cases hu; rfl)
/-- What is known of a thing. -/
theorem Rep.thing {W : Bs} {n : Nat} {β : Nat → Loc} {σ : SS} {a : Act} {w : World} (h : Rep W n β σ a w) {x : Nat} {p : Pd} (hx : σ.q x = some p) : p.p (β x).v (β x).F w := (h.qk.qa x p hx).1
/-- A new thing. -/
theorem Rep.gets {W : Bs} {n : Nat} {β : Nat → Loc} {τ : SS} {a : Act} {w w' : World} (h : Rep W n β τ a w) (hb : Below w.heap.size w w') (x : Nat) (hx : τ.q x = none) (p : Pd) (v : Value) (F : Nat → Bool) (hp : p.p v F w') (hF : ∀ b, F b = true → w.heap.size ≤ b ∧ b < w'.heap.size) :
    Rep W n (fun y => if y = x then ⟨(β x).b, v, F⟩ else β y) ((τ.obj x p).set (some x) (.unk x id)) (a.put (some x) v) w' := by
  have g := (h.other (β' := fun y => if y = x then ⟨(β x).b, v, F⟩ else β y) (fun y hy => by
    by_cases e : y = x
    · subst e; simp
    · simp [e]) (fun y hy => by
    have : y ≠ x := fun e => by rw [e, hx] at hy; cases hy
    simp [this])).grow hb
  have far : ∀ y, y ≠ x → (τ.q y).isSome = true → ∀ b, (β y).F b = true → b < w.heap.size := fun y _ hy b hb' => by
    obtain ⟨q, hq⟩ := Option.isSome_iff_exists.1 hy
    exact ((h.qk.qa y q hq).2 b hb').2
  have g2 : Rep W n (fun y => if y = x then ⟨(β x).b, v, F⟩ else β y) (τ.obj x p) a w' := by
    refine ⟨g.df, g.sz, g.sl, g.bl, g.va, g.ne, g.pt, ⟨fun y q hy => ?_, fun y z hy hz => ?_, fun y z hy hz hn b hbb => ?_, fun j u y gg hj hu e => ?_⟩⟩
    · by_cases e : y = x
      · subst e
        simp only [SS.obj, if_true, Option.some.injEq] at hy
        subst hy
        simp only [if_true]
        exact ⟨hp, fun b hbb => ⟨Or.inl (Nat.le_trans (Kp.size h.bl) (hF b hbb).1), (hF b hbb).2⟩⟩
      · simp only [SS.obj, if_neg e] at hy
        exact g.qk.qa y q hy
    · by_cases e : y = x
      · subst e
        obtain ⟨cz, hcz⟩ := Option.isSome_iff_exists.1 hz
        have hlt := (h.va z cz hcz).2.1
        have hz2 : (if z = y then (⟨(β y).b, v, F⟩ : Loc) else β z).b = (β z).b := by
          by_cases e2 : z = y
          · subst e2; simp
          · simp [e2]
        simp only [if_true]
        rw [hz2]
        cases hFz : F (β z).b with
        | false => rfl
        | true => have := (hF _ hFz).1; omega
      · simp only [SS.obj, if_neg e] at hy
        exact g.qk.qm y z hy hz
    · by_cases ey : y = x
      · subst ey
        have ez : z ≠ y := Ne.symm hn
        simp only [SS.obj, if_neg ez] at hz
        simp only [if_true] at hbb
        simp only [if_neg ez]
        cases hFz : (β z).F b with
        | false => rfl
        | true => have := far z ez hz b hFz; have := (hF b hbb).1; omega
      · simp only [SS.obj, if_neg ey] at hy
        simp only [if_neg ey] at hbb
        by_cases ez : z = x
        · subst ez
          simp only [if_true]
          cases hFz : F b with
          | false => rfl
          | true => have := far y ey hy b hbb; have := (hF b hFz).1; omega
        · simp only [SS.obj, if_neg ez] at hz
          simp only [if_neg ez]
          exact h.qk.qq y z hy hz hn b hbb
    · have := g.qk.qt j u y gg hj hu e
      by_cases ey : y = x
      · subst ey; simp [SS.obj]
      · simpa [SS.obj, ey] using this
  have g3 := g2.put (some x) (.unk x id) (fun _ _ e => by cases e) (fun y gg e => by cases e; simp [SS.obj])
  have e : (SV.unk x id).at (fun y => if y = x then (⟨(β x).b, v, F⟩ : Loc) else β y) = v := by simp [SV.at]
  rw [e] at g3
  exact g3
/-- A thing takes another's place: what was known of slots that led to it is let go. -/
def SS.turn (σ : SS) (s : List (Nat × SV)) (x d : Nat) (p : Pd) (v : SV) (t : Nat) : SS := ⟨fun j => bif Nat.beq j t then some v else lkS s j, σ.m, fun y => bif Nat.beq y d then some p else bif Nat.beq y x then none else σ.q y⟩
def clearOf (x : Nat) : List (Nat × SV) → Bool
  | [] => true
  | z :: r => (match z.2.u with
    | some (y, _) => !Nat.beq y x
    | none => true) && clearOf x r
theorem clear_lk {x : Nat} : ∀ {l : List (Nat × SV)}, clearOf x l = true → ∀ {j : Nat} {v : SV}, lkS l j = some v → ∀ y g, v.u = some (y, g) → y ≠ x
  | [], _, j, v, h, _, _, _ => by cases h
  | z :: r, hl, j, v, h, y, g, e => by
    simp only [clearOf, Bool.and_eq_true] at hl
    rw [lkS] at h
    cases hb : Nat.beq z.1 j with
    | true =>
      simp only [hb, cond_true, Option.some.injEq] at h
      have h1 := hl.1
      rw [h, e] at h1
      intro e2
      subst e2
      simp at h1
    | false =>
      simp only [hb, cond_false] at h
      exact clear_lk hl.2 h y g e
theorem Rep.swap {W : Bs} {n : Nat} {β : Nat → Loc} {τ : SS} {a : Act} {w w' : World} (h : Rep W n β τ a w) (x : Nat) {p0 : Pd} (hx : τ.q x = some p0) (ho : w'.os = w.os) (ht : w'.tape = w.tape) (hout : w'.output = w.output) (hsz : w.heap.size ≤ w'.heap.size) (hbl : ∀ k, k < w.heap.size → (β x).F k = false → w'.heap[k]? = w.heap[k]?)
    (s : List (Nat × SV)) (hs : AllS τ.s s) (hc : clearOf x s = true) (d : Nat) (hd : d = x ∨ τ.q d = none) (p : Pd) (v : Value) (F : Nat → Bool) (hp : p.p v F w') (hF : ∀ b, F b = true → ((β x).F b = true ∨ w.heap.size ≤ b) ∧ b < w'.heap.size) (t : Nat) (g : SV) (hg : g = .unk d id ∨ ∃ u, g = .val u) :
    Rep W n (fun y => if y = d then ⟨(β d).b, v, F⟩ else β y) (τ.turn s x d p g t) (a.put (some t) (g.at (fun _ => ⟨0, v, F⟩))) w' := by
  have hx' : (τ.q x).isSome = true := by rw [hx]; rfl
  have hxF := (h.qk.qa x p0 hx).2
  have hkp : W.kp w' := by
    have hk : Kp W.X W.w w := h.bl
    refine ⟨ho.trans hk.os, ht.trans hk.tape, hout.trans hk.output, Nat.le_trans hk.size hsz, fun k hlt hX => (hbl k (Nat.lt_of_lt_of_le hlt hk.size) ?_).trans (hk.block k hlt hX)⟩
    cases hFk : (β x).F k with
    | false => rfl
    | true =>
      rcases (hxF k hFk).1 with h1 | h1
      · omega
      · rw [hX] at h1; cases h1
  have hmb : ∀ y, (τ.m y).isSome = true → w'.heap[(β y).b]? = w.heap[(β y).b]? := fun y hy => by
    obtain ⟨cy, hcy⟩ := Option.isSome_iff_exists.1 hy
    exact hbl _ (h.va y cy hcy).2.1 (h.qk.qm x y hx' hy)
  have bsame : ∀ y, (if y = d then (⟨(β d).b, v, F⟩ : Loc) else β y).b = (β y).b := fun y => by
    by_cases e : y = d
    · subst e; simp
    · simp [e]
  have qold : ∀ y, y ≠ d → ((τ.turn s x d p g t).q y).isSome = true → (τ.q y).isSome = true ∧ y ≠ x := fun y hn hy => by
    have e1 : Nat.beq y d = false := by
      cases hb : Nat.beq y d with
      | false => rfl
      | true => exact absurd (Nat.eq_of_beq_eq_true hb) hn
    simp only [SS.turn, e1, cond_false] at hy
    cases hb : Nat.beq y x with
    | true => simp [hb] at hy
    | false =>
      simp only [hb, cond_false] at hy
      exact ⟨hy, fun e => by rw [e] at hb; simp at hb⟩
  have far : ∀ y, y ≠ x → (τ.q y).isSome = true → ∀ b, (β y).F b = true → b < w.heap.size ∧ (β x).F b = false := fun y hn hy b hb' => by
    obtain ⟨q, hq⟩ := Option.isSome_iff_exists.1 hy
    exact ⟨((h.qk.qa y q hq).2 b hb').2, h.qk.qq y x hy hx' hn b hb'⟩
  have notF : ∀ b, b < w.heap.size → (β x).F b = false → F b = false := fun b hlt hf => by
    cases hFb : F b with
    | false => rfl
    | true =>
      rcases (hF b hFb).1 with h1 | h1
      · rw [hf] at h1; cases h1
      · omega
  have base : ∀ b, F b = true → (W.w.heap.size ≤ b ∨ W.X b = true) ∧ b < w'.heap.size := fun b hFb => by
    refine ⟨?_, (hF b hFb).2⟩
    rcases (hF b hFb).1 with h1 | h1
    · exact (hxF b h1).1
    · exact Or.inl (Nat.le_trans (Kp.size h.bl) h1)
  have g1 : Rep W n (fun y => if y = d then ⟨(β d).b, v, F⟩ else β y) ⟨lkS s, τ.m, fun y => bif Nat.beq y d then some p else bif Nat.beq y x then none else τ.q y⟩ a w' := by
    have qold2 : ∀ y q, (bif Nat.beq y d then some p else bif Nat.beq y x then none else τ.q y) = some q → (y = d ∧ q = p) ∨ (y ≠ d ∧ y ≠ x ∧ τ.q y = some q) := fun y q hy => by
      cases hb : Nat.beq y d with
      | true =>
        simp only [hb, cond_true, Option.some.injEq] at hy
        exact Or.inl ⟨Nat.eq_of_beq_eq_true hb, hy.symm⟩
      | false =>
        simp only [hb, cond_false] at hy
        cases hb2 : Nat.beq y x with
        | true => simp [hb2] at hy
        | false =>
          simp only [hb2, cond_false] at hy
          exact Or.inr ⟨fun e => by rw [e] at hb; simp at hb, fun e => by rw [e] at hb2; simp at hb2, hy⟩
    have qold3 : ∀ y, (bif Nat.beq y d then some p else bif Nat.beq y x then none else τ.q y).isSome = true → y = d ∨ (y ≠ d ∧ y ≠ x ∧ (τ.q y).isSome = true) := fun y hy => by
      obtain ⟨q, hq⟩ := Option.isSome_iff_exists.1 hy
      rcases qold2 y q hq with h1 | ⟨h1, h2, h3⟩
      · exact Or.inl h1.1
      · exact Or.inr ⟨h1, h2, by rw [h3]; rfl⟩
    refine ⟨h.df, h.sz, fun j u hj hu => ?_, hkp, fun y cs hy => ?_, fun y z hy hz hn => ?_, fun j u y o hj hu e => h.pt j u y o hj (hs.lk hu) e, ⟨fun y q hy => ?_, fun y z hy hz => ?_, fun y z hy hz hn b hbb => ?_, fun j u y gg hj hu e => ?_⟩⟩
    · rw [h.sl j u hj (hs.lk hu)]
      have hcl := clear_lk hc hu
      have hqt := h.qk.qt j u
      have hold := hs.lk hu
      obtain ⟨uv, uq, uk, ur⟩ := u
      cases ur with
      | some r =>
        have h1 := hcl r.1 r.2 rfl
        have h2 := hqt r.1 r.2 hj hold rfl
        have h3 : r.1 ≠ d := fun e => by
          rcases hd with hd | hd
          · exact h1 (e.trans hd)
          · rw [e, hd] at h2; cases h2
        simp only [SV.at, if_neg h3]
      | none => cases uq with
        | none => rfl
        | some q => cases uk <;> simp only [SV.at, bsame]
    · rw [bsame]
      obtain ⟨c1, c2, c3, c4⟩ := h.va y cs hy
      have hsame := hmb y (by rw [hy]; rfl)
      refine ⟨c1, Nat.lt_of_lt_of_le c2 hsz, fun j v hv => ?_, fun j hj => ?_⟩
      · rw [World.cell?_of_block (w := w) hsame]; exact c3 j v hv
      · rw [World.cell?_of_block (w := w) hsame, World.frozen?_of_block (w := w) hsame]; exact c4 j hj
    · rw [bsame, bsame]; exact h.ne y z hy hz hn
    · rcases qold2 y q hy with ⟨e1, e2⟩ | ⟨h1, h2, h3⟩
      · subst e1; subst e2
        simp only [if_true]
        exact ⟨hp, base⟩
      · simp only [if_neg h1]
        obtain ⟨q1, q2⟩ := h.qk.qa y q h3
        refine ⟨q.keep hsz (fun b hb' => ?_) q1, fun b hb' => ⟨(q2 b hb').1, Nat.lt_of_lt_of_le (q2 b hb').2 hsz⟩⟩
        have := far y h2 (by rw [h3]; rfl) b hb'
        exact hbl b this.1 this.2
    · rw [bsame]
      obtain ⟨cz, hcz⟩ := Option.isSome_iff_exists.1 hz
      rcases qold3 y hy with e1 | ⟨h1, h2, h3⟩
      · subst e1
        simp only [if_true]
        exact notF _ (h.va z cz hcz).2.1 (h.qk.qm x z hx' hz)
      · simp only [if_neg h1]
        exact h.qk.qm y z h3 hz
    · rcases qold3 y hy with ey | ⟨h1, h2, h3⟩
      · subst ey
        simp only [if_true] at hbb
        rcases qold3 z hz with ez | ⟨k1, k2, k3⟩
        · exact absurd ez.symm hn
        · simp only [if_neg k1]
          cases hFz : (β z).F b with
          | false => rfl
          | true =>
            have := far z k2 k3 b hFz
            rw [notF b this.1 this.2] at hbb
            cases hbb
      · simp only [if_neg h1] at hbb
        rcases qold3 z hz with ez | ⟨k1, k2, k3⟩
        · subst ez
          simp only [if_true]
          have := far y h2 h3 b hbb
          exact notF b this.1 this.2
        · simp only [if_neg k1]
          exact h.qk.qq y z h3 k3 hn b hbb
    · have h1 := clear_lk hc hu y gg e
      have h2 := h.qk.qt j u y gg hj (hs.lk hu) e
      show (bif Nat.beq y d then some p else bif Nat.beq y x then none else τ.q y).isSome = true
      cases hb : Nat.beq y d with
      | true => rfl
      | false =>
        cases hb2 : Nat.beq y x with
        | true => exact absurd (Nat.eq_of_beq_eq_true hb2) h1
        | false => exact h2
  have g2 := g1.put (some t) g (fun y o e => by
    rcases hg with hg | ⟨u, hg⟩ <;> rw [hg] at e <;> cases e) (fun y gg e => by
    rcases hg with hg | ⟨u, hg⟩
    · rw [hg] at e
      cases e
      show (bif Nat.beq d d then some p else bif Nat.beq d x then none else τ.q d).isSome = true
      rw [Nat.beq_refl]
      rfl
    · rw [hg] at e; cases e)
  have e : g.at (fun y => if y = d then (⟨(β d).b, v, F⟩ : Loc) else β y) = g.at (fun _ => ⟨0, v, F⟩) := by
    rcases hg with hg | ⟨u, hg⟩ <;> subst hg <;> simp [SV.at]
  rw [e] at g2
  have e3 : (⟨lkS s, τ.m, fun y => bif Nat.beq y d then some p else bif Nat.beq y x then none else τ.q y⟩ : SS).set (some t) g = τ.turn s x d p g t := by
    refine SS.ext (fun j => ?_) (fun _ => rfl) (fun _ => rfl)
    show (if j = t then some g else lkS s j) = (bif Nat.beq j t then some g else lkS s j)
    cases hb : Nat.beq j t with
    | true => rw [if_pos (Nat.eq_of_beq_eq_true hb)]; rfl
    | false => rw [if_neg (fun e => by rw [e] at hb; simp at hb)]; rfl
  rw [e3] at g2
  exact g2
/-- A thing is spent on another: of the first nothing is known any more, but the slots that led to it hold what they held. -/
theorem Rep.spent {W : Bs} {n : Nat} {β : Nat → Loc} {τ : SS} {a : Act} {w w' : World} (h : Rep W n β τ a w) (x : Nat) {p0 : Pd} (hx : τ.q x = some p0) (ho : w'.os = w.os) (ht : w'.tape = w.tape) (hout : w'.output = w.output) (hsz : w.heap.size ≤ w'.heap.size) (hbl : ∀ k, k < w.heap.size → (β x).F k = false → w'.heap[k]? = w.heap[k]?)
    (d : Nat) (hdx : d ≠ x) (hd : τ.q d = none) (p : Pd) (v : Value) (F : Nat → Bool) (hp : p.p v F w') (hF : ∀ b, F b = true → ((β x).F b = true ∨ w.heap.size ≤ b) ∧ b < w'.heap.size) :
    Rep W n (fun y => if y = d then ⟨(β d).b, v, F⟩ else if y = x then ⟨(β x).b, (β x).v, fun _ => false⟩ else β y) ((⟨τ.s, τ.m, fun z => if z = x then some pd0 else if z = d then some p else τ.q z⟩ : SS).set (some d) (.unk d id)) (a.put (some d) v) w' := by
  have hx' : (τ.q x).isSome = true := by rw [hx]; rfl
  have hxF := (h.qk.qa x p0 hx).2
  have hkp : W.kp w' := by
    have hk : Kp W.X W.w w := h.bl
    refine ⟨ho.trans hk.os, ht.trans hk.tape, hout.trans hk.output, Nat.le_trans hk.size hsz, fun k hlt hX => (hbl k (Nat.lt_of_lt_of_le hlt hk.size) ?_).trans (hk.block k hlt hX)⟩
    cases hFk : (β x).F k with
    | false => rfl
    | true =>
      rcases (hxF k hFk).1 with h1 | h1
      · omega
      · rw [hX] at h1; cases h1
  have hmb : ∀ y, (τ.m y).isSome = true → w'.heap[(β y).b]? = w.heap[(β y).b]? := fun y hy => by
    obtain ⟨cy, hcy⟩ := Option.isSome_iff_exists.1 hy
    exact hbl _ (h.va y cy hcy).2.1 (h.qk.qm x y hx' hy)
  have bsame : ∀ y, (if y = d then (⟨(β d).b, v, F⟩ : Loc) else if y = x then ⟨(β x).b, (β x).v, fun _ => false⟩ else β y).b = (β y).b := fun y => by
    by_cases e : y = d
    · subst e; simp
    · by_cases e2 : y = x
      · subst e2; simp [e]
      · simp [e, e2]
  have vsame : ∀ y, y ≠ d → (if y = d then (⟨(β d).b, v, F⟩ : Loc) else if y = x then ⟨(β x).b, (β x).v, fun _ => false⟩ else β y).v = (β y).v := fun y e => by
    by_cases e2 : y = x
    · subst e2; simp [e]
    · simp [e, e2]
  have far : ∀ y, y ≠ x → (τ.q y).isSome = true → ∀ b, (β y).F b = true → b < w.heap.size ∧ (β x).F b = false := fun y hn hy b hb' => by
    obtain ⟨q, hq⟩ := Option.isSome_iff_exists.1 hy
    exact ⟨((h.qk.qa y q hq).2 b hb').2, h.qk.qq y x hy hx' hn b hb'⟩
  have notF : ∀ b, b < w.heap.size → (β x).F b = false → F b = false := fun b hlt hf => by
    cases hFb : F b with
    | false => rfl
    | true =>
      rcases (hF b hFb).1 with h1 | h1
      · rw [hf] at h1; cases h1
      · omega
  have base : ∀ b, F b = true → (W.w.heap.size ≤ b ∨ W.X b = true) ∧ b < w'.heap.size := fun b hFb => by
    refine ⟨?_, (hF b hFb).2⟩
    rcases (hF b hFb).1 with h1 | h1
    · exact (hxF b h1).1
    · exact Or.inl (Nat.le_trans (Kp.size h.bl) h1)
  have cases3 : ∀ y q, (if y = x then some pd0 else if y = d then some p else τ.q y) = some q → (y = x ∧ q = pd0) ∨ (y = d ∧ y ≠ x ∧ q = p) ∨ (y ≠ x ∧ y ≠ d ∧ τ.q y = some q) := fun y q hy => by
    by_cases e : y = x
    · rw [if_pos e] at hy; cases hy; exact Or.inl ⟨e, rfl⟩
    · rw [if_neg e] at hy
      by_cases e2 : y = d
      · rw [if_pos e2] at hy; cases hy; exact Or.inr (Or.inl ⟨e2, e, rfl⟩)
      · rw [if_neg e2] at hy; exact Or.inr (Or.inr ⟨e, e2, hy⟩)
  have cases3' : ∀ y, (if y = x then some pd0 else if y = d then some p else τ.q y).isSome = true → y = x ∨ (y = d ∧ y ≠ x) ∨ (y ≠ x ∧ y ≠ d ∧ (τ.q y).isSome = true) := fun y hy => by
    obtain ⟨q, hq⟩ := Option.isSome_iff_exists.1 hy
    rcases cases3 y q hq with h1 | h1 | h1
    · exact Or.inl h1.1
    · exact Or.inr (Or.inl ⟨h1.1, h1.2.1⟩)
    · exact Or.inr (Or.inr ⟨h1.1, h1.2.1, by rw [h1.2.2]; rfl⟩)
  have g1 : Rep W n (fun y => if y = d then ⟨(β d).b, v, F⟩ else if y = x then ⟨(β x).b, (β x).v, fun _ => false⟩ else β y) (⟨τ.s, τ.m, fun z => if z = x then some pd0 else if z = d then some p else τ.q z⟩ : SS) a w' := by
    refine ⟨h.df, h.sz, fun j u hj hu => ?_, hkp, fun y cs hy => ?_, fun y z hy hz hn => ?_, h.pt, ⟨fun y q hy => ?_, fun y z hy hz => ?_, fun y z hy hz hn b hbb => ?_, fun j u y gg hj hu e => ?_⟩⟩
    · rw [h.sl j u hj hu]
      have hqt := h.qk.qt j u
      obtain ⟨uv, uq, uk, ur⟩ := u
      cases ur with
      | some r =>
        have h2 := hqt r.1 r.2 hj hu rfl
        have h3 : r.1 ≠ d := fun e => by rw [e, hd] at h2; cases h2
        simp only [SV.at, vsame _ h3]
      | none => cases uq with
        | none => rfl
        | some q => cases uk <;> simp only [SV.at, bsame]
    · rw [bsame]
      obtain ⟨c1, c2, c3, c4⟩ := h.va y cs hy
      have hsame := hmb y (by rw [show τ.m y = some cs from hy]; rfl)
      refine ⟨c1, Nat.lt_of_lt_of_le c2 hsz, fun j v hv => ?_, fun j hj => ?_⟩
      · rw [World.cell?_of_block (w := w) hsame]; exact c3 j v hv
      · rw [World.cell?_of_block (w := w) hsame, World.frozen?_of_block (w := w) hsame]; exact c4 j hj
    · rw [bsame, bsame]; exact h.ne y z hy hz hn
    · rcases cases3 y q hy with ⟨e1, e2⟩ | ⟨e1, e3, e2⟩ | ⟨h1, h2, h3⟩
      · subst e1; subst e2
        simp only [if_neg (Ne.symm hdx), if_true]
        exact ⟨trivial, fun b hb => by cases hb⟩
      · subst e1; subst e2
        simp only [if_true]
        exact ⟨hp, base⟩
      · simp only [if_neg h2, if_neg h1]
        obtain ⟨q1, q2⟩ := h.qk.qa y q h3
        refine ⟨q.keep hsz (fun b hb' => ?_) q1, fun b hb' => ⟨(q2 b hb').1, Nat.lt_of_lt_of_le (q2 b hb').2 hsz⟩⟩
        have := far y h1 (by rw [h3]; rfl) b hb'
        exact hbl b this.1 this.2
    · rw [bsame]
      obtain ⟨cz, hcz⟩ := Option.isSome_iff_exists.1 hz
      rcases cases3' y hy with e1 | ⟨e1, _⟩ | ⟨h1, h2, h3⟩
      · subst e1
        simp only [if_neg (Ne.symm hdx), if_true]
      · subst e1
        simp only [if_true]
        exact notF _ (h.va z cz hcz).2.1 (h.qk.qm x z hx' hz)
      · simp only [if_neg h2, if_neg h1]
        exact h.qk.qm y z h3 hz
    · rcases cases3' y hy with e1 | ⟨e1, _⟩ | ⟨h1, h2, h3⟩
      · subst e1
        simp only [if_neg (Ne.symm hdx), if_true] at hbb
        cases hbb
      · subst e1
        simp only [if_true] at hbb
        rcases cases3' z hz with e2 | ⟨e2, _⟩ | ⟨k1, k2, k3⟩
        · subst e2
          simp only [if_neg (Ne.symm hdx), if_true]
        · exact absurd e2.symm hn
        · simp only [if_neg k2, if_neg k1]
          cases hFz : (β z).F b with
          | false => rfl
          | true =>
            have := far z k1 k3 b hFz
            rw [notF b this.1 this.2] at hbb
            cases hbb
      · simp only [if_neg h2, if_neg h1] at hbb
        rcases cases3' z hz with e2 | ⟨e2, _⟩ | ⟨k1, k2, k3⟩
        · subst e2
          simp only [if_neg (Ne.symm hdx), if_true]
        · subst e2
          simp only [if_true]
          have := far y h1 h3 b hbb
          exact notF b this.1 this.2
        · simp only [if_neg k2, if_neg k1]
          exact h.qk.qq y z h3 k3 hn b hbb
    · have h2 := h.qk.qt j u y gg hj hu e
      show (if y = x then some pd0 else if y = d then some p else τ.q y).isSome = true
      by_cases e1 : y = x
      · rw [if_pos e1]; rfl
      · rw [if_neg e1]
        by_cases e2 : y = d
        · rw [if_pos e2]; rfl
        · rw [if_neg e2]; exact h2
  have g2 := g1.put (some d) (.unk d id) (fun _ _ e => by cases e) (fun y gg e => by
    cases e
    show (if d = x then some pd0 else if d = d then some p else τ.q d).isSome = true
    rw [if_neg hdx, if_pos rfl]
    rfl)
  have e : (SV.unk d id).at (fun y => if y = d then (⟨(β d).b, v, F⟩ : Loc) else if y = x then ⟨(β x).b, (β x).v, fun _ => false⟩ else β y) = v := by simp [SV.at]
  rw [e] at g2
  exact g2
end Go.Proofs.YtlpjdhoboebbfaaDoor
