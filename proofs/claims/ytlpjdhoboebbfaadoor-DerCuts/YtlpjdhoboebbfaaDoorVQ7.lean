/- Things that hold others: lists of bytes, and what is spent on them; a row that is grown. -/
import Derived.Test.YtlpjdhoboebbfaaDoorVQ6
import Derived.Lib.AppendZerosOnto
import Derived.Lib.Walk
import Derived.Lib.SliceRun
namespace Go.Proofs.YtlpjdhoboebbfaaDoor
open Go.RowKit

/-- A thing is spent on another, which holds its memory from then on. -/
theorem Rep.merge {W : Bs} {n : Nat} {β : Nat → Loc} {τ : SS} {a : Act} {w : World} (h : Rep W n β τ a w) (d y : Nat) (hdy : d ≠ y) {pd py : Pd} (hd : τ.q d = some pd) (hy : τ.q y = some py) (p : Pd) (hp : p.p (β d).v (fun b => (β d).F b || (β y).F b) w) : Rep W n (fun z => if z = d then ⟨(β d).b, (β d).v, fun b => (β d).F b || (β y).F b⟩ else if z = y then ⟨(β y).b, (β y).v, fun _ => false⟩ else β z) ⟨τ.s, τ.m, fun z => if z = y then some pd0 else if z = d then some p else τ.q z⟩ a w := by
  have hyd : y ≠ d := Ne.symm hdy
  have hd' : (τ.q d).isSome = true := by rw [hd]; rfl
  have hy' : (τ.q y).isSome = true := by rw [hy]; rfl
  have bsame : ∀ z, (if z = d then (⟨(β d).b, (β d).v, fun b => (β d).F b || (β y).F b⟩ : Loc) else if z = y then ⟨(β y).b, (β y).v, fun _ => false⟩ else β z).b = (β z).b := fun z => by
    by_cases e : z = d
    · subst e; simp
    · by_cases e2 : z = y
      · subst e2; simp [e]
      · simp [e, e2]
  have vsame : ∀ z, (if z = d then (⟨(β d).b, (β d).v, fun b => (β d).F b || (β y).F b⟩ : Loc) else if z = y then ⟨(β y).b, (β y).v, fun _ => false⟩ else β z).v = (β z).v := fun z => by
    by_cases e : z = d
    · subst e; simp
    · by_cases e2 : z = y
      · subst e2; simp [e]
      · simp [e, e2]
  have c3 : ∀ z q, (if z = y then some pd0 else if z = d then some p else τ.q z) = some q → (z = y ∧ q = pd0) ∨ (z = d ∧ q = p) ∨ (z ≠ y ∧ z ≠ d ∧ τ.q z = some q) := fun z q hz => by
    by_cases e : z = y
    · rw [if_pos e] at hz; cases hz; exact Or.inl ⟨e, rfl⟩
    · rw [if_neg e] at hz
      by_cases e2 : z = d
      · rw [if_pos e2] at hz; cases hz; exact Or.inr (Or.inl ⟨e2, rfl⟩)
      · rw [if_neg e2] at hz; exact Or.inr (Or.inr ⟨e, e2, hz⟩)
  have c3' : ∀ z, (if z = y then some pd0 else if z = d then some p else τ.q z).isSome = true → z = y ∨ z = d ∨ (z ≠ y ∧ z ≠ d ∧ (τ.q z).isSome = true) := fun z hz => by
    obtain ⟨q, hq⟩ := Option.isSome_iff_exists.1 hz
    rcases c3 z q hq with h1 | h1 | h1
    · exact Or.inl h1.1
    · exact Or.inr (Or.inl h1.1)
    · exact Or.inr (Or.inr ⟨h1.1, h1.2.1, by rw [h1.2.2]; rfl⟩)
  refine ⟨h.df, h.sz, fun j u hj hu => ?_, h.bl, fun z cs hz => ?_, fun z z' hz hz' hn => ?_, h.pt, ⟨fun z q hz => ?_, fun z x hz hx => ?_, fun z x hz hx hn b hbb => ?_, fun j u z gg hj hu e => ?_⟩⟩
  · rw [h.sl j u hj hu]
    obtain ⟨uv, uq, uk, ur⟩ := u
    cases ur with
    | some r => simp only [SV.at, vsame]
    | none => cases uq with
      | none => rfl
      | some q => cases uk <;> simp only [SV.at, bsame]
  · rw [bsame]; exact h.va z cs hz
  · rw [bsame, bsame]; exact h.ne z z' hz hz' hn
  · rcases c3 z q hz with ⟨rfl, rfl⟩ | ⟨rfl, rfl⟩ | ⟨h1, h2, h3⟩
    · simp only [if_neg hyd, if_true]
      exact ⟨trivial, fun b hb => by cases hb⟩
    · simp only [if_true]
      refine ⟨hp, fun b hb => ?_⟩
      rcases Bool.or_eq_true _ _ ▸ hb with hb | hb
      · exact (h.qk.qa _ _ hd).2 b hb
      · exact (h.qk.qa _ _ hy).2 b hb
    · simp only [if_neg h1, if_neg h2]
      exact h.qk.qa z q h3
  · rw [bsame]
    rcases c3' z hz with rfl | rfl | ⟨h1, h2, h3⟩
    · simp only [if_neg hyd, if_true]
    · simp only [if_true]
      rw [h.qk.qm _ x hd' hx, h.qk.qm _ x hy' hx]; rfl
    · simp only [if_neg h1, if_neg h2]
      exact h.qk.qm z x h3 hx
  · rcases c3' z hz with rfl | rfl | ⟨h1, h2, h3⟩
    · simp only [if_neg hyd, if_true] at hbb
      cases hbb
    · simp only [if_true] at hbb
      rcases c3' x hx with rfl | rfl | ⟨k1, k2, k3⟩
      · simp only [if_neg hyd, if_true]
      · exact absurd rfl hn
      · simp only [if_neg k1, if_neg k2]
        rcases Bool.or_eq_true _ _ ▸ hbb with hb | hb
        · exact h.qk.qq _ x hd' k3 (Ne.symm k2) b hb
        · exact h.qk.qq _ x hy' k3 (Ne.symm k1) b hb
    · simp only [if_neg h1, if_neg h2] at hbb
      rcases c3' x hx with rfl | rfl | ⟨k1, k2, k3⟩
      · simp only [if_neg hyd, if_true]
      · simp only [if_true]
        rw [h.qk.qq z _ h3 hd' h2 b hbb, h.qk.qq z _ h3 hy' h1 b hbb]; rfl
      · simp only [if_neg k1, if_neg k2]
        exact h.qk.qq z x h3 k3 hn b hbb
  · have h2 := h.qk.qt j u z gg hj hu e
    show (if z = y then some pd0 else if z = d then some p else τ.q z).isSome = true
    by_cases e1 : z = y
    · rw [if_pos e1]; rfl
    · rw [if_neg e1]
      by_cases e2 : z = d
      · rw [if_pos e2]; rfl
      · rw [if_neg e2]; exact h2
/-- What g makes of the value that leads to the thing is a slice of those bytes, of the thing's own memory. -/
def Vr (p : Pd) (g : Value → Value) (n : Nat) (l : List Nat) : Prop := ∀ v F w, p.p v F w → (rdPd n l).p (g v) F w
theorem vr_rd {n : Nat} {l : List Nat} : Vr (rdPd n l) id n l := fun _ _ _ h => h
theorem vr_row {n : Nat} {l : List Nat} (hl : ∀ x ∈ l, x < 256) : Vr (rowPd 5 1 n (cells8 l)) id n l := fun v F w h => by
  obtain ⟨z, c, h1, h2, h3, h4⟩ := row_ba h hl
  refine ⟨z, c, h1, h2, h3, h4, fun p hp => (h.2 _).2 ?_⟩
  rw [h1, hp]; rfl
theorem cutA_block {z : Option Addr} {c k : Nat} {p : Addr} (h : cutA z c k = some p) : ∃ q, z = some q ∧ q.block = p.block := by
  cases z with
  | none =>
    unfold cutA at h
    by_cases e : c = k
    · rw [if_pos e] at h; cases h
    · rw [if_neg e] at h; cases h
  | some q =>
    refine ⟨q, rfl, ?_⟩
    unfold cutA at h
    by_cases e : c = k
    · rw [if_pos e] at h; cases h; rfl
    · rw [if_neg e] at h
      simp only [Option.map_some, Option.some.injEq] at h
      rw [← h]; unfold Addr.add; split <;> rfl
theorem vr_tail {p : Pd} {g : Value → Value} {n : Nat} {l : List Nat} (h : Vr p g n l) (k : Nat) (hk : k ≤ n) : Vr p (fun v => tailV k (g v)) (n - k) (l.drop k) := fun v F w hp => by
  obtain ⟨z, c, h1, h2, h3, h4, h5⟩ := h v F w hp
  refine ⟨cutA z c k, c - k, by show tailV k (g v) = _; rw [h1]; rfl, by omega, by rw [List.length_drop, h3], ?_, fun q hq => ?_⟩
  · have e := h4.cut c k (n - k) (by omega) h2
    have e2 : (fun i => l.getD (k + i) 0) = fun i => (l.drop k).getD i 0 := by
      funext i
      rw [List.getD_eq_getElem?_getD, List.getD_eq_getElem?_getD, List.getElem?_drop]
    rw [← e2]
    exact e
  · obtain ⟨q', e1, e2⟩ := cutA_block hq
    rw [← e2]
    exact h5 q' e1
theorem Vr.vw {p : Pd} {g : Value → Value} {n : Nat} {l : List Nat} (h : Vr p g n l) : Vw p g n l := fun v F w hp => by
  obtain ⟨z, c, h1, h2, h3, h4, _⟩ := h v F w hp
  exact ⟨z, c, h1, h2, h3, h4⟩
theorem rd_more {n : Nat} {l : List Nat} {v : Value} {F G : Nat → Bool} {w : World} (h : (rdPd n l).p v F w) (hFG : ∀ b, F b = true → G b = true) : (rdPd n l).p v G w := by
  obtain ⟨z, c, h1, h2, h3, h4, h5⟩ := h
  exact ⟨z, c, h1, h2, h3, h4, fun p hp => hFG _ (h5 p hp)⟩
/-- Two texts in a list of one's own. -/
def twoPd (n1 : Nat) (l1 : List Nat) (n2 : Nat) (l2 : List Nat) : Pd := ⟨fun v F w => ∃ g v1 v2, v = .slice (some ⟨g, 0, none⟩) 2 2 ∧ F g = true ∧ w.cell? ⟨g, 0, none⟩ = some v1 ∧ w.cell? ⟨g, 1, none⟩ = some v2 ∧ (rdPd n1 l1).p v1 F w ∧ (rdPd n2 l2).p v2 F w, fun {v F w w'} hs hb ⟨g, v1, v2, h1, h2, h3, h4, h5, h6⟩ =>
  ⟨g, v1, v2, h1, h2, by rw [World.cell?_of_block (w := w) (hb g h2)]; exact h3, by rw [World.cell?_of_block (w := w) (hb g h2)]; exact h4, (rdPd n1 l1).keep hs hb h5, (rdPd n2 l2).keep hs hb h6⟩⟩
section
variable {W : Bs} {n : Nat} {ops : Array Oper} {i : Nat} {o : Oper} {L : Nat → Bool} {xs : List OE} {σ : SS}
/-- Two texts are put into a list: both are spent on it. -/
theorem u_two (u : Up ops i o L) (hg : Gd ops n o (run L 0 xs σ)) (dd : Nat) (hdd : o.dst = some dd) (hn : lookQ (deps o) i 0 ops.toList xs dd (some (σ.q dd)) = some none) (e1 e2 : Operand) (ho : o.op = .buildSlice 49 2 #[(0, e1), (1, e2)]) {x y : Nat} {g1 g2 : Value → Value} (hx : lookO n ops i o xs σ e1 = some (.unk x g1)) (hy : lookO n ops i o xs σ e2 = some (.unk y g2)) (hxy : Nat.beq x y = false) (hdx : Nat.beq dd x = false) (hdy : Nat.beq dd y = false) {px py : Pd} (hqx : lookQ (deps o) i 0 ops.toList xs x (some (σ.q x)) = some (some px)) (hqy : lookQ (deps o) i 0 ops.toList xs y (some (σ.q y)) = some (some py)) {n1 n2 : Nat} {l1 l2 : List Nat} (hv1 : Vr px g1 n1 l1) (hv2 : Vr py g2 n2 l2) : GStep Tryd.prog W n ops o (run L 0 xs σ) ((eB dd (twoPd n1 l1 n2 l2) x y).app (run L 0 xs σ)) := by
  refine Step.gd hg fun β a w Q hr => ?_
  have nx : x ≠ y := fun e => by rw [e] at hxy; simp at hxy
  have dx : dd ≠ x := fun e => by rw [e] at hdx; simp at hdx
  have dy : dd ≠ y := fun e => by rw [e] at hdy; simp at hdy
  have ex1 : a.eval e1 = g1 (β x).v := hr.eval (u.ev hx)
  have ex2 : a.eval e2 = g2 (β y).v := hr.eval (u.ev hy)
  have hpx := hr.thing (u.q hqx)
  have hpy := hr.thing (u.q hqy)
  have h1 := hv1 _ _ _ hpx
  have h2 := hv2 _ _ _ hpy
  obtain ⟨z1, c1, s1, _⟩ := id h1
  obtain ⟨z2, c2, s2, _⟩ := id h2
  have hsz : (sizeOf 22).run Tryd.prog w = .ok 1 w := by
    have hi : (Tryd.prog.info? 22).map (·.size) = some 1 := by kernel_rfl
    obtain ⟨t, ht, hs⟩ := Option.map_eq_some_iff.1 hi
    simp [sizeOf, typeInfo, ht, hs]
  have hzv : (zeroValue 22).run Tryd.prog w = .ok (.slice none 0 0) w := by
    have hi : (Tryd.prog.info? 22).map (·.zero) = some (some (.slice none 0 0)) := by kernel_rfl
    obtain ⟨t, ht, hs⟩ := Option.map_eq_some_iff.1 hi
    simp [zeroValue, typeInfo, ht, hs]
  have hrun : (Instr.buildSlice 49 2 (#[(0, e1), (1, e2)].map fun (i, x) => (i, a.eval x))).run Tryd.prog w = .ok (.slice (some ⟨w.heap.size, 0, none⟩) 2 2) (w.alloc (.cells #[g1 (β x).v, g2 (β y).v] 22)) := by
    unfold Instr.buildSlice
    simp only [Sem.run_bind, run_underlying Tryd.underlying49 w, Result.andThen_ok, hsz]
    rw [if_neg (show ¬ 2 * 1 > 2 ^ 24 by decide), if_neg (show ¬ 2 * 1 = 0 by decide)]
    simp only [Sem.run_bind, hzv, Sem.run_pure, Result.andThen_ok]
    rw [show ((#[(0, e1), (1, e2)] : Array (Nat × Operand)).map fun (i, x) => (i, a.eval x)).toList = [(0, g1 (β x).v), (1, g2 (β y).v)] by simp [ex1, ex2], s1, s2]
    have hf : Instr.fill (fun i => some (i * 1, 1)) ((Array.range (2 * 1)).map (fun x => (Value.slice none 0 0).cells[x % (Value.slice none 0 0).cells.size]!)) [(0, .slice z1 n1 c1), (1, .slice z2 n2 c2)] = some #[Value.slice z1 n1 c1, Value.slice z2 n2 c2] := by kernel_rfl
    rw [hf]
    simp [newRow]
  unfold Oper.wp execOp
  simp only [ho, Sem.run_bind, hrun, Result.andThen_ok, Sem.run_pure]
  have hbl : Below w.heap.size w (w.alloc (.cells #[g1 (β x).v, g2 (β y).v] 22)) := Below.alloc (Below.refl _ w) (Nat.le_refl _) _
  have g0 := hr.gets hbl dd (u.q hn) pd0 (.slice (some ⟨w.heap.size, 0, none⟩) 2 2) (fun b => Nat.beq b w.heap.size) trivial (fun b hb => by
    rw [Nat.eq_of_beq_eq_true hb]
    exact ⟨Nat.le_refl _, by simp⟩)
  have hq1 : ((((run L 0 xs σ).obj dd pd0).set (some dd) (.unk dd id))).q x = some px := by
    show (if x = dd then _ else _) = _
    rw [if_neg (Ne.symm dx)]
    exact u.q hqx
  have hqd : ((((run L 0 xs σ).obj dd pd0).set (some dd) (.unk dd id))).q dd = some pd0 := by
    show (if dd = dd then _ else _) = _
    rw [if_pos rfl]
  have g1' := g0.merge dd x dx hqd hq1 pd0 trivial
  have hq2 : (if y = x then some pd0 else if y = dd then some pd0 else ((((run L 0 xs σ).obj dd pd0).set (some dd) (.unk dd id))).q y) = some py := by
    rw [if_neg (Ne.symm nx), if_neg (Ne.symm dy)]
    show (if y = dd then _ else _) = _
    rw [if_neg (Ne.symm dy)]
    exact u.q hqy
  have g2' := g1'.merge dd y dy (pd := pd0) (by show (if dd = x then _ else if dd = dd then _ else _) = _; rw [if_neg dx, if_pos rfl]) hq2 (twoPd n1 l1 n2 l2) (by
    simp only [if_true, if_neg (Ne.symm dy), if_neg (Ne.symm dx), if_neg (Ne.symm nx)]
    refine ⟨w.heap.size, g1 (β x).v, g2 (β y).v, rfl, by simp, by simp, by simp, ?_, ?_⟩
    · exact rd_more ((rdPd n1 l1).keep hbl.size (fun b hb => hbl.block b ((hr.qk.qa x px (u.q hqx)).2 b hb).2) h1) (fun b hb => by simp [hb])
    · exact rd_more ((rdPd n2 l2).keep hbl.size (fun b hb => hbl.block b ((hr.qk.qa y py (u.q hqy)).2 b hb).2) h2) (fun b hb => by simp [hb]))
  show (fun a' w' => ∃ β', Rep W n β' _ a' w') (a.put o.dst (.slice (some ⟨w.heap.size, 0, none⟩) 2 2)) (w.alloc (.cells #[g1 (β x).v, g2 (β y).v] 22))
  rw [hdd]
  have e : (eB dd (twoPd n1 l1 n2 l2) x y).app (run L 0 xs σ) = ⟨(((run L 0 xs σ).obj dd pd0).set (some dd) (.unk dd id)).s, (((run L 0 xs σ).obj dd pd0).set (some dd) (.unk dd id)).m, fun z => if z = y then some pd0 else if z = dd then some (twoPd n1 l1 n2 l2) else if z = x then some pd0 else if z = dd then some pd0 else (((run L 0 xs σ).obj dd pd0).set (some dd) (.unk dd id)).q z⟩ := by
    refine SS.ext (fun j => rfl) (fun j => rfl) (fun j => ?_)
    show (if some x = some j then some pd0 else if some y = some j then some pd0 else if j = dd then some _ else (run L 0 xs σ).q j) = (if j = y then some pd0 else if j = dd then some _ else if j = x then some pd0 else if j = dd then some pd0 else if j = dd then _ else _)
    by_cases a1 : j = x
    · subst a1; simp [nx, Ne.symm dx]
    · by_cases a2 : j = y
      · subst a2; simp
      · rw [if_neg (fun e => a1 (Option.some.inj e).symm), if_neg (fun e => a2 (Option.some.inj e).symm), if_neg a2, if_neg a1]
        by_cases a3 : j = dd
        · simp [a3]
        · simp [a3]
  rw [e]
  exact ⟨_, g2'⟩
end
theorem put_same {a : Act} {t : Nat} {v : Value} (h : a.tmps[t]? = some v) : a.put (some t) v = a := by
  have e : a.tmps.setIfInBounds t v = a.tmps := by
    apply Array.ext_getElem?
    intro i
    rw [Array.getElem?_setIfInBounds]
    split
    · rename_i e
      subst e
      obtain ⟨hlt, _⟩ := Array.getElem?_eq_some_iff.1 h
      rw [if_pos hlt, h]
    · rfl
  obtain ⟨tm, _⟩ := a
  simp only [Act.put] at e ⊢
  first
    | rw [e]
    | simp [e]
/-- A slice of a thing's bytes, as the thing: it is only read from then on. -/
theorem Rp.reseat {W : Bs} {n : Nat} {σ : SS} {a : Act} {w : World} (h : Rp W n σ a w) (x d t : Nat) (ht : t < n) {p : Pd} {g : Value → Value} {m : Nat} {l : List Nat} (hx : σ.q x = some p) (hd : d = x ∨ σ.q d = none) (hs : σ.s t = some (.unk x g)) (hv : Vr p g m l) (s : List (Nat × SV)) (hs' : AllS σ.s s) (hc : clearOf x s = true) : Rp W n (σ.turn s x d (rdPd m l) (.unk d id) t) a w := by
  obtain ⟨β, hr⟩ := h
  obtain ⟨q1, q2⟩ := hr.qk.qa x p hx
  have gg := hr.swap x hx rfl rfl rfl (Nat.le_refl _) (fun _ _ _ => rfl) s hs' hc d hd (rdPd m l) (g (β x).v) (β x).F (hv _ _ _ q1) (fun b hb => ⟨Or.inl hb, (q2 b hb).2⟩) t (.unk d id) (Or.inl rfl)
  have e : a.tmps[t]? = some (g (β x).v) := hr.sl t _ ht hs
  rw [show ((SV.unk d id).at fun _ => (⟨0, g (β x).v, (β x).F⟩ : Loc)) = g (β x).v from rfl, put_same e] at gg
  exact ⟨_, gg⟩
/-- A thing gets another name. -/
def renS (x d : Nat) (v : SV) : SV := match v.u with
  | some (y, g) => bif Nat.beq y x then .unk d g else v
  | none => v
theorem Rp.rename {W : Bs} {n : Nat} {σ : SS} {a : Act} {w : World} (h : Rp W n σ a w) (x d : Nat) {p : Pd} (hx : σ.q x = some p) (hd : σ.q d = none) : Rp W n ⟨fun j => (σ.s j).map (renS x d), σ.m, fun y => bif Nat.beq y d then some p else bif Nat.beq y x then none else σ.q y⟩ a w := by
  obtain ⟨β, hr⟩ := h
  have hxd : x ≠ d := fun e => by rw [e, hd] at hx; cases hx
  have hx' : (σ.q x).isSome = true := by rw [hx]; rfl
  have bsame : ∀ y, (if y = d then (⟨(β d).b, (β x).v, (β x).F⟩ : Loc) else β y).b = (β y).b := fun y => by
    by_cases e : y = d
    · subst e; simp
    · simp [e]
  have bt : ∀ {y z : Nat}, Nat.beq y z = true → y = z := fun h => Nat.eq_of_beq_eq_true h
  have bf : ∀ {y z : Nat}, Nat.beq y z = false → y ≠ z := fun h e => by rw [e] at h; simp at h
  have c3 : ∀ y q, (bif Nat.beq y d then some p else bif Nat.beq y x then none else σ.q y) = some q → (y = d ∧ q = p) ∨ (y ≠ d ∧ y ≠ x ∧ σ.q y = some q) := fun y q hy => by
    cases hb : Nat.beq y d with
    | true =>
      simp only [hb, cond_true, Option.some.injEq] at hy
      exact Or.inl ⟨bt hb, hy.symm⟩
    | false =>
      simp only [hb, cond_false] at hy
      cases hb2 : Nat.beq y x with
      | true => simp [hb2] at hy
      | false =>
        simp only [hb2, cond_false] at hy
        exact Or.inr ⟨bf hb, bf hb2, hy⟩
  have c3' : ∀ y, (bif Nat.beq y d then some p else bif Nat.beq y x then none else σ.q y).isSome = true → y = d ∨ (y ≠ d ∧ y ≠ x ∧ (σ.q y).isSome = true) := fun y hy => by
    obtain ⟨q, hq⟩ := Option.isSome_iff_exists.1 hy
    rcases c3 y q hq with h1 | h1
    · exact Or.inl h1.1
    · exact Or.inr ⟨h1.1, h1.2.1, by rw [h1.2.2]; rfl⟩
  refine ⟨fun y => if y = d then ⟨(β d).b, (β x).v, (β x).F⟩ else β y, hr.df, hr.sz, fun j u hj hu => ?_, hr.bl, fun y cs hy => ?_, fun y z hy hz hn => ?_, fun j u y o hj hu e => ?_, ⟨fun y q hy => ?_, fun y z hy hz => ?_, fun y z hy hz hn b hbb => ?_, fun j u y gg hj hu e => ?_⟩⟩
  · obtain ⟨v, hv, rfl⟩ := Option.map_eq_some_iff.1 hu
    rw [hr.sl j v hj hv]
    have hqt := hr.qk.qt j v
    obtain ⟨uv, uq, uk, ur⟩ := v
    cases ur with
    | some r =>
      have h2 := hqt r.1 r.2 hj hv rfl
      cases hb : Nat.beq r.1 x with
      | true => simp [renS, SV.at, bt hb]
      | false =>
        have h3 : r.1 ≠ d := fun e => by rw [e, hd] at h2; cases h2
        simp [renS, hb, SV.at, h3]
    | none => cases uq with
      | none => rfl
      | some q => cases uk <;> simp only [renS, SV.at, bsame]
  · rw [bsame]; exact hr.va y cs hy
  · rw [bsame, bsame]; exact hr.ne y z hy hz hn
  · obtain ⟨v, hv, rfl⟩ := Option.map_eq_some_iff.1 hu
    refine hr.pt j v y o hj hv ?_
    obtain ⟨uv, uq, uk, ur⟩ := v
    cases ur with
    | some r =>
      cases hb : Nat.beq r.1 x with
      | true => simp [renS, hb] at e
      | false => simpa [renS, hb] using e
    | none => exact e
  · rcases c3 y q hy with ⟨rfl, rfl⟩ | ⟨h1, h2, h3⟩
    · simp only [if_true]
      exact hr.qk.qa x _ hx
    · simp only [if_neg h1]
      exact hr.qk.qa y q h3
  · rw [bsame]
    rcases c3' y hy with rfl | ⟨h1, h2, h3⟩
    · simp only [if_true]
      exact hr.qk.qm x z hx' hz
    · simp only [if_neg h1]
      exact hr.qk.qm y z h3 hz
  · rcases c3' y hy with rfl | ⟨h1, h2, h3⟩
    · simp only [if_true] at hbb
      rcases c3' z hz with rfl | ⟨k1, k2, k3⟩
      · exact absurd rfl hn
      · simp only [if_neg k1]
        exact hr.qk.qq x z hx' k3 (Ne.symm k2) b hbb
    · simp only [if_neg h1] at hbb
      rcases c3' z hz with rfl | ⟨k1, k2, k3⟩
      · simp only [if_true]
        exact hr.qk.qq y x h3 hx' h2 b hbb
      · simp only [if_neg k1]
        exact hr.qk.qq y z h3 k3 hn b hbb
  · obtain ⟨v, hv, rfl⟩ := Option.map_eq_some_iff.1 hu
    show (bif Nat.beq y d then some p else bif Nat.beq y x then none else σ.q y).isSome = true
    have hqt := hr.qk.qt j v
    obtain ⟨uv, uq, uk, ur⟩ := v
    cases ur with
    | some r =>
      have h2 := hqt r.1 r.2 hj hv rfl
      cases hb : Nat.beq r.1 x with
      | true =>
        simp [renS, hb] at e
        simp [← e.1]
      | false =>
        simp [renS, hb] at e
        have e1 : r.1 = y := by rw [e]
        rw [← e1, hb]
        cases Nat.beq r.1 d <;> simp [h2]
    | none => simp [renS] at e
end Go.Proofs.YtlpjdhoboebbfaaDoor
